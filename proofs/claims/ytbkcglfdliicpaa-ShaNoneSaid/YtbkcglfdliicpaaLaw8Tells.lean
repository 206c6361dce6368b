/- ShaTells walked, over whatever the program's Hash is. -/
import Derived.Test.YtbkcglfdliicpaaLaw8Spec
namespace Go.Proofs.Ytbkcglfdliicpaa
open Go.RowKit
set_option linter.unusedVariables false
set_option maxRecDepth 100000

theorem rowAt_cells {W : World} {g : Nat} {cs : Array Value} {T : TypeId} {rows : BRow} (hg : W.heap[g]? = some (.cells cs T (0, 0))) (hc : ∀ (i : Nat) (r : Option Addr × List UInt8 × Nat), rows[i]? = some r → cs[i]? = some (Value.slice r.1 r.2.1.length r.2.2)) (hr : ∀ r ∈ rows, Bs W r.1 r.2.1 ∧ r.2.1.length ≤ r.2.2) : RowAt W (some ⟨g, 0, none⟩) rows :=
  ⟨fun _ => ⟨g, 0, rfl, fun i r h => by rw [Nat.zero_add, cell_of_row _ _ _ _ _ _ hg]; exact hc i r h⟩, hr⟩
theorem bs_alloc {W : World} {A : Option Addr} {l : List UInt8} (h : Bs W A l) (o : Obj) : Bs (W.alloc o) A l := h.below ((Below.refl _ _).alloc (Nat.le_refl _) o)

/-- Of one, two, three rows, told where it is called -/
theorem of1_any {H : HashP} (C : ShaC H) (W : World) (A : Option Addr) (l : List UInt8) (n c : Nat) (hn : l.length = n) (hb : Bs W A l) (hc : n ≤ c) (hl : n ≤ 10000) :
    Calls Try.prog 10 #[.slice (some ⟨W.heap.size, 0, none⟩) 1 1] (W.alloc (.cells #[.slice A n c] 22)) fun e w' => e = .returned (.agg (arrB (digest l))) ∧ Below W.heap.size W w' := by
  subst hn
  have h := C.of (W.alloc (.cells #[.slice A l.length c] 22)) (some ⟨W.heap.size, 0, none⟩) [(A, l, c)] 1 (rowAt_cells (heap_alloc_new _ _) (fun i r h => by
      match i, h with
      | 0, h => injection h with h; subst h; rfl) (fun r h => by
      simp only [List.mem_cons, List.not_mem_nil, or_false] at h
      subst h
      exact ⟨bs_alloc hb _, hc⟩)) (by simp) (by simp) (by simpa [rowsB] using hl)
  rw [show rowsB [(A, l, c)] = l by simp [rowsB]] at h
  refine h.mono fun e w' ⟨h1, h2⟩ => ⟨h1, ?_⟩
  exact ((Below.refl _ _).alloc (Nat.le_refl _) _).trans (h2.mono (by simp))
theorem of2_any {H : HashP} (C : ShaC H) (W : World) (A B : Option Addr) (l m : List UInt8) (n k c d : Nat) (hn : l.length = n) (hk : m.length = k) (hb : Bs W A l) (hb2 : Bs W B m) (hc : n ≤ c) (hd : k ≤ d) (hl : n + k ≤ 10000) :
    Calls Try.prog 10 #[.slice (some ⟨W.heap.size, 0, none⟩) 2 2] (W.alloc (.cells #[.slice A n c, .slice B k d] 22)) fun e w' => e = .returned (.agg (arrB (digest (l ++ m)))) ∧ Below W.heap.size W w' := by
  subst hn
  subst hk
  have h := C.of (W.alloc (.cells #[.slice A l.length c, .slice B m.length d] 22)) (some ⟨W.heap.size, 0, none⟩) [(A, l, c), (B, m, d)] 2 (rowAt_cells (heap_alloc_new _ _) (fun i r h => by
      match i, h with
      | 0, h => injection h with h; subst h; rfl
      | 1, h => injection h with h; subst h; rfl) (fun r h => by
      simp only [List.mem_cons, List.not_mem_nil, or_false] at h
      rcases h with rfl | rfl
      · exact ⟨bs_alloc hb _, hc⟩
      · exact ⟨bs_alloc hb2 _, hd⟩)) (by simp) (by simp) (by simpa [rowsB] using hl)
  rw [show rowsB [(A, l, c), (B, m, d)] = l ++ m by simp [rowsB]] at h
  refine h.mono fun e w' ⟨h1, h2⟩ => ⟨h1, ?_⟩
  exact ((Below.refl _ _).alloc (Nat.le_refl _) _).trans (h2.mono (by simp))
theorem of3_any {H : HashP} (C : ShaC H) (W : World) (A B D : Option Addr) (l m o : List UInt8) (n k j c d x : Nat) (hn : l.length = n) (hk : m.length = k) (hj : o.length = j) (hb : Bs W A l) (hb2 : Bs W B m) (hb3 : Bs W D o) (hc : n ≤ c) (hd : k ≤ d) (hx : j ≤ x) (hl : n + k + j ≤ 10000) :
    Calls Try.prog 10 #[.slice (some ⟨W.heap.size, 0, none⟩) 3 3] (W.alloc (.cells #[.slice A n c, .slice B k d, .slice D j x] 22)) fun e w' => e = .returned (.agg (arrB (digest (l ++ m ++ o)))) ∧ Below W.heap.size W w' := by
  subst hn
  subst hk
  subst hj
  have h := C.of (W.alloc (.cells #[.slice A l.length c, .slice B m.length d, .slice D o.length x] 22)) (some ⟨W.heap.size, 0, none⟩) [(A, l, c), (B, m, d), (D, o, x)] 3 (rowAt_cells (heap_alloc_new _ _) (fun i r h => by
      match i, h with
      | 0, h => injection h with h; subst h; rfl
      | 1, h => injection h with h; subst h; rfl
      | 2, h => injection h with h; subst h; rfl) (fun r h => by
      simp only [List.mem_cons, List.not_mem_nil, or_false] at h
      rcases h with rfl | rfl | rfl
      · exact ⟨bs_alloc hb _, hc⟩
      · exact ⟨bs_alloc hb2 _, hd⟩
      · exact ⟨bs_alloc hb3 _, hx⟩)) (by simp) (by simp) (by simp [rowsB]; omega)
  rw [show rowsB [(A, l, c), (B, m, d), (D, o, x)] = l ++ m ++ o by simp [rowsB]] at h
  refine h.mono fun e w' ⟨h1, h2⟩ => ⟨h1, ?_⟩
  exact ((Below.refl _ _).alloc (Nat.le_refl _) _).trans (h2.mono (by simp))

set_option maxHeartbeats 3200000 in
theorem law8Tells {H : HashP} (C : ShaC H) (A B D : Option Addr) (l m o : List UInt8) (c d x : Nat) (w : World) (hb : Bs w A l) (hb2 : Bs w B m) (hb3 : Bs w D o) (hc : l.length ≤ c) (hd : m.length ≤ d) (hx : o.length ≤ x) :
    Calls Try.prog 3 #[.slice A l.length c, .slice B m.length d, .slice D o.length x] w fun e w' => e = .returned (.bool true) ∧ Below w.heap.size w w' := by
  have HA := Lib.hid (fun W => alive8_any C W)
  by_cases hbig : 400 < l.length ∨ 400 < m.length ∨ 400 < o.length
  · generalize l.length = n at *
    generalize m.length = k at *
    generalize o.length = j at *
    by_cases h1 : 400 < n
    · have d1 : decide ((400 : Int) < (n : Int)) = true := decide_eq_true (by omega)
      clear hbig h1
      go_enter Try.func3, Try.ntmps3
      go_wp2_with fail
      with_reducible refine (HA.out _).mono ?_
      rintro e w1 ⟨rfl, hb1⟩
      go_wp2_with fail
      go_ret
      exact ⟨rfl, hb1⟩
    · have d1 : decide ((400 : Int) < (n : Int)) = false := decide_eq_false (by omega)
      by_cases h2 : 400 < k
      · have d2 : decide ((400 : Int) < (k : Int)) = true := decide_eq_true (by omega)
        clear hbig h1 h2
        go_enter Try.func3, Try.ntmps3
        go_wp2_with fail
        with_reducible refine (HA.out _).mono ?_
        rintro e w1 ⟨rfl, hb1⟩
        go_wp2_with fail
        go_ret
        exact ⟨rfl, hb1⟩
      · have d2 : decide ((400 : Int) < (k : Int)) = false := decide_eq_false (by omega)
        have d3 : decide ((400 : Int) < (j : Int)) = true := decide_eq_true (by omega)
        clear hbig h1 h2
        go_enter Try.func3, Try.ntmps3
        go_wp2_with fail
        with_reducible refine (HA.out _).mono ?_
        rintro e w1 ⟨rfl, hb1⟩
        go_wp2_with fail
        go_ret
        exact ⟨rfl, hb1⟩
  · obtain ⟨n, hn⟩ : ∃ n, l.length = n := ⟨_, rfl⟩
    obtain ⟨k, hk⟩ : ∃ n, m.length = n := ⟨_, rfl⟩
    obtain ⟨j, hj⟩ : ∃ n, o.length = n := ⟨_, rfl⟩
    have HN := Lib.hid hn
    have HK := Lib.hid hk
    have HJ := Lib.hid hj
    rw [hn] at hc hbig ⊢
    rw [hk] at hd hbig ⊢
    rw [hj] at hx hbig ⊢
    have d1 : decide ((400 : Int) < (n : Int)) = false := decide_eq_false (by omega)
    have d2 : decide ((400 : Int) < (k : Int)) = false := decide_eq_false (by omega)
    have d3 : decide ((400 : Int) < (j : Int)) = false := decide_eq_false (by omega)
    have HO1 : Hid (∀ W, Bs W A l → Calls Try.prog 10 #[.slice (some ⟨W.heap.size, 0, none⟩) 1 1] (W.alloc (.cells #[.slice A n c] 22)) fun e w' => e = .returned (.agg (arrB (digest l))) ∧ Below W.heap.size W w') := Lib.hid fun W h => of1_any C W A l n c hn h hc (by omega)
    have HO3 : Hid (∀ W, Bs W A l → Bs W B m → Bs W D o → Calls Try.prog 10 #[.slice (some ⟨W.heap.size, 0, none⟩) 3 3] (W.alloc (.cells #[.slice A n c, .slice B k d, .slice D j x] 22)) fun e w' => e = .returned (.agg (arrB (digest (l ++ m ++ o)))) ∧ Below W.heap.size W w') :=
      Lib.hid fun W h h2 h3 => of3_any C W A B D l m o n k j c d x hn hk hj h h2 h3 hc hd hx (by omega)
    have HR1 : Hid (∀ W, Bs W A l → Calls Try.prog 11 #[.slice A n c] W fun e w' => e = .returned (.agg (arrB (digest l))) ∧ Below W.heap.size W w') := Lib.hid fun W h => by rw [← hn]; exact rof_any A l c W h (by omega)
    obtain ⟨X, hX⟩ : ∃ X, l ++ m ++ o = X := ⟨_, rfl⟩
    have hXl : X.length = n + k + j := by rw [← hX, List.length_append, List.length_append, hn, hk, hj]
    obtain ⟨q, hq⟩ : ∃ q, n + k + j = q := ⟨_, rfl⟩
    rw [hq] at hXl
    have HR2 : Hid (∀ W A c, Bs W A X → Calls Try.prog 11 #[.slice A q c] W fun e w' => e = .returned (.agg (arrB (digest X))) ∧ Below W.heap.size W w') := Lib.hid fun W A c h => by rw [← hXl]; exact rof_any A X c W h (by omega)
    have HO2 : Hid (∀ W A c, Bs W A X → q ≤ c → Calls Try.prog 10 #[.slice (some ⟨W.heap.size, 0, none⟩) 1 1] (W.alloc (.cells #[.slice A q c] 22)) fun e w' => e = .returned (.agg (arrB (digest X))) ∧ Below W.heap.size W w') := Lib.hid fun W A c h hc => of1_any C W A X q c hXl h hc (by omega)
    rw [hX] at HO3
    have E1 := eq64 (digest l) (digest_len l)
    have E2 := eq64 (digest X) (digest_len X)
    have hm64 : Try.prog.eqGuardType Try.prog.depth 24 = false := by kernel_rfl
    generalize arrB (digest l) = D1 at *
    generalize arrB (digest X) = D2 at *
    have HX := Lib.hid hX
    have HXL := Lib.hid hXl
    have hnl : n ≤ 400 := by omega
    have hkl : k ≤ 400 := by omega
    have hjl : j ≤ 400 := by omega
    have HBL := Lib.hid hb
    have HBM := Lib.hid hb2
    have HBO := Lib.hid hb3
    clear hbig hn hk hj hX hXl hb hb2 hb3 hc hd hx C
    go_enter Try.func3, Try.ntmps3
    go_wp2_with fail
    with_reducible refine (HA.out _).mono ?_
    rintro e w1 ⟨rfl, hb1⟩
    have HB1 := Lib.hid hb1
    have HL1 := Lib.hid (HBL.out.below hb1)
    have HM1 := Lib.hid (HBM.out.below hb1)
    have HO1' := Lib.hid (HBO.out.below hb1)
    have O0 : Hid (Ob 5 w1 w1.heap.size (.slice none 0 0) []) := Lib.hid (Ob.nil_ _ _ _)
    clear hb1 HBL HBM HBO HA
    go_wp2_with (first
      | (at_builtin; refine wpList_append_bs rfl (.const (.slice none 0 0)) (.tmp 28) 22 rfl w1.heap.size 5 Try.underlying22 info5 _ [] rfl O0.out A l n c rfl HN.out.symm HL1.out (by rw [HN.out]; simp; omega) (Nat.le_refl _) ?_; intro v2 w2 ho2 hgr2; rw [List.nil_append] at ho2; have HB2 := Lib.hid ((Below.refl w1.heap.size w1).grown hgr2 (Nat.le_refl _) (fun k hk => by cases hk)); obtain ⟨A2, c2, rfl, -, -⟩ := ho2.formL HN.out; have O2 := Lib.hid ho2; clear ho2 hgr2)
      | (at_builtin; refine wpList_append_bs rfl (.tmp 29) (.tmp 30) 22 rfl w1.heap.size 5 Try.underlying22 info5 _ l rfl O2.out B m k d rfl HK.out.symm (HM1.out.below HB2.out) (by rw [HN.out, HK.out]; omega) HB2.out.size ?_; intro v3 w3 ho3 hgr3; have HB3 := Lib.hid (HB2.out.grown hgr3 HB2.out.size (fun k hk => O2.out.fresh k (own_at hk))); obtain ⟨A3, c3, rfl, -, -⟩ := ho3.formL (n := n + k) (by rw [List.length_append, HN.out, HK.out]); have O3 := Lib.hid ho3; clear ho3 hgr3)
      | (at_builtin; refine wpList_append_bs rfl (.tmp 31) (.tmp 32) 22 rfl w1.heap.size 5 Try.underlying22 info5 _ (l ++ m) rfl O3.out D o j x rfl HJ.out.symm (HO1'.out.below HB3.out) (by rw [List.length_append, HN.out, HK.out, HJ.out]; omega) HB3.out.size ?_; intro v4 w4 ho4 hgr4; have HB4 := Lib.hid (HB3.out.grown hgr4 HB3.out.size (fun k hk => O3.out.fresh k (own_at hk))); rw [HX.out] at ho4; obtain ⟨A4, c4, rfl, hbs4, hc4⟩ := ho4.formL HXL.out; have HX4 := Lib.hid hbs4; clear ho4 hgr4 hbs4))
    clear HB2 O2 HB3 O3 O0
    have HL4 := Lib.hid (HL1.out.below HB4.out)
    have HM4 := Lib.hid (HM1.out.below HB4.out)
    have HO4 := Lib.hid (HO1'.out.below HB4.out)
    have HB4' := Lib.hid (below_next HB1.out HB4.out)
    clear HL1 HM1 HO1' HB1 HB4
    with_reducible refine (HO1.out _ HL4.out).mono ?_
    rintro e w5 ⟨rfl, hb5⟩
    have HB5 := Lib.hid hb5
    clear hb5
    go_wp2_with fail
    with_reducible refine (HR1.out _ (HL4.out.below HB5.out)).mono ?_
    rintro e w6 ⟨rfl, hb6⟩
    have HB6 := Lib.hid (below_next HB5.out hb6)
    clear hb6 HB5
    go_wp2_with (refine wpList_runsG (o := ⟨some 39, _, _, _, _, _⟩) rfl (.bool true) (run_eql_agg rfl rfl rfl hm64 (E1 _)) ?_)
    with_reducible refine (HO3.out _ (HL4.out.below HB6.out) (HM4.out.below HB6.out) (HO4.out.below HB6.out)).mono ?_
    rintro e w7 ⟨rfl, hb7⟩
    have HB7 := Lib.hid (below_next HB6.out hb7)
    clear hb7 HB6
    go_wp2_with fail
    with_reducible refine (HR2.out _ _ _ (HX4.out.below HB7.out)).mono ?_
    rintro e w8 ⟨rfl, hb8⟩
    have HB8 := Lib.hid (below_next HB7.out hb8)
    clear hb8 HB7
    go_wp2_with (refine wpList_runsG (o := ⟨some 48, _, _, _, _, _⟩) rfl (.bool true) (run_eql_agg rfl rfl rfl hm64 (E2 _)) ?_)
    with_reducible refine (HO2.out _ _ _ (HX4.out.below HB8.out) hc4).mono ?_
    rintro e w9 ⟨rfl, hb9⟩
    have HB9 := Lib.hid (below_next HB8.out hb9)
    clear hb9 HB8
    go_wp2_with fail
    with_reducible refine (HO3.out _ (HL4.out.below HB9.out) (HM4.out.below HB9.out) (HO4.out.below HB9.out)).mono ?_
    rintro e w10 ⟨rfl, hb10⟩
    have HB10 := Lib.hid (below_next HB9.out hb10)
    clear hb10 HB9
    go_wp2_with (refine wpList_runsG (o := ⟨some 59, _, _, _, _, _⟩) rfl (.bool true) (run_eql_agg rfl rfl rfl hm64 (E2 _)) ?_)
    go_ret
    exact ⟨rfl, below_next HB4'.out HB10.out⟩
end Go.Proofs.Ytbkcglfdliicpaa

