/- SealTells walked. Written by wip/tools/mk_tells5.py. -/
import Derived.Test.YtddalnmoahpljaaLaw5Back
namespace Go.Proofs.Ytddalnmoahpljaa
open Go.RowKit
set_option linter.unusedVariables false
set_option maxRecDepth 100000

/-- what b tells, in one form -/
def GotR (b : List UInt8) (K Q : Int) (body : List UInt8) (N : Int) (ok : Bool) : Prop :=
  ∀ w w' e, GetPost w b e w' → Below w.heap.size w w' ∧ ∃ A c, e = .returned (.tuple #[.agg #[.int .i64 K, .int .i64 Q, .slice A body.length c], .int .i64 N, .bool ok]) ∧ Bs w' A body

theorem got_any (b : List UInt8) : ∃ K Q body N ok, GotR b K Q body N ok := by
  by_cases h : isR b
  · refine ⟨((b.getD 0 0).toNat : Int), (seqR b : Int), bodyR b, (sizeR (lenR b) : Nat), true, fun w w' e hp => ?_⟩
    obtain ⟨hb, ⟨-, A, c, he, hbs⟩ | ⟨hn, -⟩⟩ := hp
    · exact ⟨hb, A, c, he, hbs⟩
    · exact absurd h hn
  · refine ⟨0, 0, [], 0, false, fun w w' e hp => ?_⟩
    obtain ⟨hb, he⟩ := getPost_no h hp
    exact ⟨hb, none, 0, he, Bs.nil_ _ _⟩

/-- a row of the call's own, empty or not -/
theorem Ob.formA {E : TypeId} {w : World} {base n : Nat} {v : Value} {l : List UInt8} (h : Ob E w base v l) (hn : l.length = n) :
    ∃ A c, v = .slice A n c ∧ Bs w A l ∧ n ≤ c := by
  subst hn
  obtain ⟨A, c, rfl, hb, hf⟩ := h.form
  rcases hf with rfl | ⟨g, rfl, hle, -⟩
  · refine ⟨none, c, rfl, hb, ?_⟩
    by_cases h0 : 0 < l.length
    · obtain ⟨b, o, e, -⟩ := hb h0
      cases e
    · omega
  · exact ⟨_, c, rfl, hb, h.cap⟩

set_option maxHeartbeats 1600000 in
theorem tells_yes (k q n : Int) (A A2 : Option Addr) (l m : List UInt8) (c cm : Nat) (w : World) (h : Bs w A l) (hm : Bs w A2 m) (hcm : m.length ≤ cm) (hk1 : -9223372036854775808 ≤ k) (hk2 : k ≤ 9223372036854775807) (hq1 : -9223372036854775808 ≤ q) (hq2 : q ≤ 9223372036854775807)
    (hn1 : -9223372036854775808 ≤ n) (hn2 : n ≤ 9223372036854775807) (hl : l.length ≤ 600) (hml : m.length ≤ 700) :
    Calls Try.prog 3 #[.agg #[.int .i64 k, .int .i64 q, .slice A l.length c], .slice A2 m.length cm, .int .i64 n] w fun e w' => e = .returned (.bool true) ∧ Below w.heap.size w w' := by
  have HPUT0 : Hid (∀ W, Below w.heap.size w W → Calls Try.prog 12 #[.agg #[.int .i64 k, .int .i64 q, .slice A l.length c]] W (RetOb 5 W (putR k q l))) := Lib.hid fun W hW =>
    put_any k q A l c W (h.below hW) hk1 hk2 hq1 hq2 (by omega)
  have HRPUT0 : Hid (∀ W, Below w.heap.size w W → Calls Try.prog 13 #[.agg #[.int .i64 k, .int .i64 q, .slice A l.length c]] W (RetOb 5 W (putR k q l))) := Lib.hid fun W hW =>
    rput_any k q A l c W (h.below hW) hk1 hk2 hq1 hq2 (by omega)
  obtain ⟨z, hz⟩ : ∃ z, sizeI n = z := ⟨_, rfl⟩
  have HSZ : Hid (∀ W, Calls Try.prog 15 #[.int .i64 n] W fun e w' => e = .returned (.int .i64 z) ∧ w' = W) := Lib.hid fun W => by
    have := size_any n W hn1 hn2
    rwa [hz] at this
  have HRSZ : Hid (∀ W, Calls Try.prog 16 #[.int .i64 n] W fun e w' => e = .returned (.int .i64 z) ∧ w' = W) := Lib.hid fun W => by
    have := rsize_any n W hn1 hn2
    rwa [hz] at this
  obtain ⟨K, Q, body, N, ok, hgot⟩ := got_any m
  have HGOT := Lib.hid hgot
  obtain ⟨nb, hnb⟩ : ∃ n, body.length = n := ⟨_, rfl⟩
  have HNB := Lib.hid hnb
  obtain ⟨P, Hp⟩ : ∃ P, Hid (putR k q l = P) := ⟨_, rfl⟩
  rw [Hp.out] at HPUT0 HRPUT0
  obtain ⟨sp, Hsp⟩ : ∃ s, Hid (strB P = s) := ⟨_, rfl⟩
  obtain ⟨ln, hln⟩ : ∃ n, l.length = n := ⟨_, rfl⟩
  rw [hln] at HPUT0 HRPUT0 hl ⊢
  obtain ⟨nm, hnm⟩ : ∃ n, m.length = n := ⟨_, rfl⟩
  rw [hnm] at hml hcm ⊢
  have HM := Lib.hid hnm
  have HBM := Lib.hid hm
  have hbox : Hid (Below w.heap.size w (w.alloc (.cells #[.int .i64 k, .int .i64 q, .slice A ln c] 24))) := Lib.hid ((Below.refl _ _).alloc (Nat.le_refl _) _)
  have hbc := box_cells w (.int .i64 k) (.int .i64 q) (.slice A ln c) 24
  obtain ⟨w0, Hw0⟩ : ∃ w0, Hid (w.alloc (.cells #[.int .i64 k, .int .i64 q, .slice A ln c] 24) = w0) := ⟨_, rfl⟩
  rw [Hw0.out] at hbox hbc
  have HC := Lib.hid hbc
  have d1 : decide (600 < (ln : Int)) = false := decide_eq_false (by omega)
  have d2 : decide (700 < (nm : Int)) = false := decide_eq_false (by omega)
  clear hbc h hm hgot hnb hln hnm hz
  have HA := Lib.hid (alive5_any w0)
  go_enter Try.func3, Try.ntmps3
  go_wp2_with fail
  rw [Hw0.out]
  with_reducible refine HA.out.mono ?_
  rintro e w1 ⟨rfl, hb1⟩
  obtain ⟨c0, c1, c2⟩ := HC.out w1 hb1
  have B1 := Lib.hid (below_on hbox.out hb1)
  have HR1 : Hid (Below w0.heap.size w0 w1) := Lib.hid hb1
  have HBM1 : Hid (Bs w1 A2 m) := Lib.hid (HBM.out.below B1.out)
  clear hb1
  go_upto_region 4 with fail
  clear c0 c1 c2
  go_wp2_with (at_builtin; refine wpList_append_bs rfl (.const (.slice none 0 0)) (.tmp 30) 22 rfl w1.heap.size 5 Try.underlying22 info5 _ [] rfl (Ob.nil_ _ _ _) A2 m nm cm rfl HM.out.symm HBM1.out (by have := HM.out; simp; omega) (Nat.le_refl _) ?_)
  intro v3 w3 ho3 hgr3
  have hb3 : Below w1.heap.size w1 w3 := (Below.refl _ _).grown hgr3 (Nat.le_refl _) (fun k hk => by simp [Value.ownBlock] at hk)
  obtain ⟨A3, cp3, rfl, hbs3, hc3⟩ := ho3.formA (n := nm) (by simpa using HM.out)
  have hbs3' : Bs w3 A3 m := by simpa using hbs3
  have B3 := Lib.hid (below_on B1.out hb3)
  have HR3 : Hid (Below w0.heap.size w0 w3) := Lib.hid (below_on HR1.out hb3)
  have HG3 : Hid (Calls Try.prog 10 #[.slice A3 nm cp3] w3 fun e w' => Below w3.heap.size w3 w' ∧ ∃ A c, e = .returned (.tuple #[.agg #[.int .i64 K, .int .i64 Q, .slice A nb c], .int .i64 N, .bool ok]) ∧ Bs w' A body) := Lib.hid
    ((get_any _ m nm cp3 w3 hbs3' HM.out hc3 (by omega)).mono fun e w' h => by rw [← HNB.out]; exact HGOT.out w3 w' e h)
  clear ho3 hgr3 hbs3 hbs3' hb3
  go_wp2_with fail
  with_reducible refine HG3.out.mono ?_
  rintro e w4 ⟨hb4, A5, c5, rfl, hbs5⟩
  have B4 := Lib.hid (below_on B3.out hb4)
  have HR4 : Hid (Below w0.heap.size w0 w4) := Lib.hid (below_on HR3.out hb4)
  have B5 : Hid (Below w.heap.size w (w4.alloc (.cells #[.int .i64 K, .int .i64 Q, .slice A5 nb c5] 24))) := Lib.hid (B4.out.alloc B4.out.size _)
  have HR5 : Hid (Below w0.heap.size w0 (w4.alloc (.cells #[.int .i64 K, .int .i64 Q, .slice A5 nb c5] 24))) := Lib.hid (HR4.out.alloc HR4.out.size _)
  have HBS5 : Hid (Bs (w4.alloc (.cells #[.int .i64 K, .int .i64 Q, .slice A5 nb c5] 24)) A5 body) := Lib.hid (hbs5.below ((Below.refl _ _).alloc (Nat.le_refl _) _))
  have HC5 := Lib.hid (box_cells w4 (.int .i64 K) (.int .i64 Q) (.slice A5 nb c5) 24)
  obtain ⟨w5, Hw5⟩ : ∃ w5, Hid (w4.alloc (.cells #[.int .i64 K, .int .i64 Q, .slice A5 nb c5] 24) = w5) := ⟨_, rfl⟩
  rw [Hw5.out] at B5 HR5 HC5 HBS5
  have HG5 : Hid (Calls Try.prog 11 #[.slice A2 nm cm] w5 fun e w' => Below w5.heap.size w5 w' ∧ ∃ A c, e = .returned (.tuple #[.agg #[.int .i64 K, .int .i64 Q, .slice A nb c], .int .i64 N, .bool ok]) ∧ Bs w' A body) := Lib.hid
    ((rget_any A2 m nm cm w5 (HBM.out.below B5.out) HM.out hcm (by omega)).mono fun e w' h => by rw [← HNB.out]; exact HGOT.out w5 w' e h)
  clear hb4 hbs5
  go_upto_region 5 with fail
  rw [Hw5.out]
  go_wp2_with fail
  with_reducible refine HG5.out.mono ?_
  rintro e w6 ⟨hb6, A6, c6, rfl, hbs6⟩
  have B6 := Lib.hid (below_on B5.out hb6)
  have hb7 : Below w5.heap.size w5 (w6.alloc (.cells #[.int .i64 K, .int .i64 Q, .slice A6 nb c6] 24)) := hb6.alloc hb6.size _
  have B7 : Hid (Below w.heap.size w (w6.alloc (.cells #[.int .i64 K, .int .i64 Q, .slice A6 nb c6] 24))) := Lib.hid (B6.out.alloc B6.out.size _)
  have HR7 : Hid (Below w0.heap.size w0 (w6.alloc (.cells #[.int .i64 K, .int .i64 Q, .slice A6 nb c6] 24))) := Lib.hid (below_on HR5.out hb7)
  have HBS6 : Hid (Bs (w6.alloc (.cells #[.int .i64 K, .int .i64 Q, .slice A6 nb c6] 24)) A6 body) := Lib.hid (hbs6.below ((Below.refl _ _).alloc (Nat.le_refl _) _))
  have HBS7 : Hid (Bs (w6.alloc (.cells #[.int .i64 K, .int .i64 Q, .slice A6 nb c6] 24)) A5 body) := Lib.hid (HBS5.out.below hb7)
  have HC6 := Lib.hid (box_cells w6 (.int .i64 K) (.int .i64 Q) (.slice A6 nb c6) 24)
  have HB7 := Lib.hid hb7
  obtain ⟨w7, Hw7⟩ : ∃ w7, Hid (w6.alloc (.cells #[.int .i64 K, .int .i64 Q, .slice A6 nb c6] 24) = w7) := ⟨_, rfl⟩
  rw [Hw7.out] at B7 HR7 HC6 HBS6 HBS7 HB7
  have HPUT : Hid (∀ W, Below w7.heap.size w7 W → Calls Try.prog 12 #[.agg #[.int .i64 k, .int .i64 q, .slice A ln c]] W (RetOb 5 W P)) := Lib.hid fun W hW => HPUT0.out W (below_on B7.out hW)
  have HRPUT : Hid (∀ W, Below w7.heap.size w7 W → Calls Try.prog 13 #[.agg #[.int .i64 k, .int .i64 q, .slice A ln c]] W (RetOb 5 W P)) := Lib.hid fun W hW => HRPUT0.out W (below_on B7.out hW)
  have HSAME : Hid (∀ W, Below w7.heap.size w7 W → Calls Try.prog 14 #[.agg #[.int .i64 K, .int .i64 Q, .slice A5 nb c5], .agg #[.int .i64 K, .int .i64 Q, .slice A6 nb c6]] W (BoolIn W true)) := Lib.hid fun W hW => by
    have := same_any K Q K Q A5 A6 body body nb nb c5 c6 W (HBS7.out.below hW) (HBS6.out.below hW) HNB.out.symm HNB.out.symm
    rwa [show decide (K = K ∧ Q = Q ∧ body = body) = true by simp] at this
  have x0 : ∀ W, Below w7.heap.size w7 W → W.cell? ⟨w.heap.size, 0, none⟩ = some (.int .i64 k) := fun W hW => (HC.out W (below_on HR7.out hW)).1
  have x1 : ∀ W, Below w7.heap.size w7 W → W.cell? ⟨w.heap.size, 1, none⟩ = some (.int .i64 q) := fun W hW => (HC.out W (below_on HR7.out hW)).2.1
  have x2 : ∀ W, Below w7.heap.size w7 W → W.cell? ⟨w.heap.size, 2, none⟩ = some (.slice A ln c) := fun W hW => (HC.out W (below_on HR7.out hW)).2.2
  have y0 : ∀ W, Below w7.heap.size w7 W → W.cell? ⟨w4.heap.size, 0, none⟩ = some (.int .i64 K) := fun W hW => (HC5.out W (below_on HB7.out hW)).1
  have y1 : ∀ W, Below w7.heap.size w7 W → W.cell? ⟨w4.heap.size, 1, none⟩ = some (.int .i64 Q) := fun W hW => (HC5.out W (below_on HB7.out hW)).2.1
  have y2 : ∀ W, Below w7.heap.size w7 W → W.cell? ⟨w4.heap.size, 2, none⟩ = some (.slice A5 nb c5) := fun W hW => (HC5.out W (below_on HB7.out hW)).2.2
  have z0 : ∀ W, Below w7.heap.size w7 W → W.cell? ⟨w6.heap.size, 0, none⟩ = some (.int .i64 K) := fun W hW => (HC6.out W hW).1
  have z1 : ∀ W, Below w7.heap.size w7 W → W.cell? ⟨w6.heap.size, 1, none⟩ = some (.int .i64 Q) := fun W hW => (HC6.out W hW).2.1
  have z2 : ∀ W, Below w7.heap.size w7 W → W.cell? ⟨w6.heap.size, 2, none⟩ = some (.slice A6 nb c6) := fun W hW => (HC6.out W hW).2.2
  clear hb6 hbs6 hb7
  go_upto_region 6 with fail
  rw [Hw7.out]
  refine wp_region_noPanic ?_
  refine wp_region_held_drew (S := fun W => Below w7.heap.size w7 W) (by kernel_rfl) (by exact (Below.refl _ _).drew) (fun hS => ?_)
  refine' take_at 0 rfl (by kernel_rfl) (by kernel_rfl) (by kernel_rfl) (fun _ _ _ h => h) (by rfl) hS ?_ ?_ ?_
  rotate_left 2
  · intro W hSW; go_simp; try with_reducible rfl
  · simp only [List.set_cons_succ, List.set_cons_zero]; rfl
  refine' take_at 3 rfl (by kernel_rfl) (by kernel_rfl) (by kernel_rfl) (fun _ _ _ h => h) (by rfl) hS ?_ ?_ ?_
  rotate_left 2
  · intro W hSW; go_simp; try with_reducible rfl
  · simp only [List.set_cons_succ, List.set_cons_zero]; rfl
  refine call_at 1 rfl (by kernel_rfl) (by rfl) (fun K hK => ?_)
  go_simp
  with_reducible refine (HPUT.out _ hS).mono ?_
  rintro e v1 ⟨x1, rfl, ho1, hb1⟩
  obtain ⟨A7, c7, rfl, hbs7, -⟩ := ho1.form
  have kb1 := below_on hS hb1
  have cv1 : ∀ W, Below v1.heap.size v1 W → (convert 22 9 (.slice A7 P.length c7)).run Try.prog W = .ok (.string sp) W := fun W hW => by
    rw [← Hsp.out]
    exact run_conv_bs W _ 5 _ Try.underlying22 Try.underlying5 Try.underlying9 A7 P c7 _ (hbs7.below hW) rfl
  clear hS ho1 hb1 hbs7
  refine hK.out _ _ (by exact kb1) (fun hS => ?_)
  clear hK K
  refine held_mono (S2 := fun W => Below v1.heap.size v1 W) (fun W hW => below_on kb1 hW) _ _ _ _ ?_
  replace hS : Below v1.heap.size v1 v1 := Below.refl _ _
  replace y0 := fun W (hW : Below v1.heap.size v1 W) => y0 W (below_on kb1 hW)
  replace y1 := fun W (hW : Below v1.heap.size v1 W) => y1 W (below_on kb1 hW)
  replace y2 := fun W (hW : Below v1.heap.size v1 W) => y2 W (below_on kb1 hW)
  replace z0 := fun W (hW : Below v1.heap.size v1 W) => z0 W (below_on kb1 hW)
  replace z1 := fun W (hW : Below v1.heap.size v1 W) => z1 W (below_on kb1 hW)
  replace z2 := fun W (hW : Below v1.heap.size v1 W) => z2 W (below_on kb1 hW)
  have HRPUT := Lib.hid fun W (hW : Below v1.heap.size v1 W) => HRPUT.out W (below_on kb1 hW)
  have HSAME := Lib.hid fun W (hW : Below v1.heap.size v1 W) => HSAME.out W (below_on kb1 hW)
  refine' take_at 2 rfl (by kernel_rfl) (by kernel_rfl) (by kernel_rfl) (fun _ _ _ h => h) (by rfl) hS ?_ ?_ ?_
  rotate_left 2
  · intro W hSW; go_simp; try with_reducible rfl
  · simp only [List.set_cons_succ, List.set_cons_zero]; rfl
  refine call_at 4 rfl (by kernel_rfl) (by rfl) (fun K hK => ?_)
  go_simp
  with_reducible refine (HRPUT.out _ hS).mono ?_
  rintro e v2 ⟨x2, rfl, ho2, hb2⟩
  obtain ⟨A8, c8, rfl, hbs8, -⟩ := ho2.form
  have kb2 := below_on hS hb2
  have cv2 : ∀ W, Below v2.heap.size v2 W → (convert 22 9 (.slice A8 P.length c8)).run Try.prog W = .ok (.string sp) W := fun W hW => by
    rw [← Hsp.out]
    exact run_conv_bs W _ 5 _ Try.underlying22 Try.underlying5 Try.underlying9 A8 P c8 _ (hbs8.below hW) rfl
  clear hS ho2 hb2 hbs8
  refine hK.out _ _ (by exact kb2) (fun hS => ?_)
  clear hK K
  refine held_mono (S2 := fun W => Below v2.heap.size v2 W) (fun W hW => below_on kb2 hW) _ _ _ _ ?_
  replace hS : Below v2.heap.size v2 v2 := Below.refl _ _
  replace y0 := fun W (hW : Below v2.heap.size v2 W) => y0 W (below_on kb2 hW)
  replace y1 := fun W (hW : Below v2.heap.size v2 W) => y1 W (below_on kb2 hW)
  replace y2 := fun W (hW : Below v2.heap.size v2 W) => y2 W (below_on kb2 hW)
  replace z0 := fun W (hW : Below v2.heap.size v2 W) => z0 W (below_on kb2 hW)
  replace z1 := fun W (hW : Below v2.heap.size v2 W) => z1 W (below_on kb2 hW)
  replace z2 := fun W (hW : Below v2.heap.size v2 W) => z2 W (below_on kb2 hW)
  have HSAME := Lib.hid fun W (hW : Below v2.heap.size v2 W) => HSAME.out W (below_on kb2 hW)
  refine' take_at 5 rfl (by kernel_rfl) (by kernel_rfl) (by kernel_rfl) (fun _ _ _ h => h) (by rfl) hS ?_ ?_ ?_
  rotate_left 2
  · intro W hSW; go_simp; try with_reducible rfl
  · simp only [List.set_cons_succ, List.set_cons_zero]; rfl
  refine' take_at 6 rfl (by kernel_rfl) (by kernel_rfl) (by kernel_rfl) (fun _ _ _ h => h) (by rfl) hS ?_ ?_ ?_
  rotate_left 2
  · intro W hSW; go_simp; try with_reducible rfl
  · simp only [List.set_cons_succ, List.set_cons_zero]; rfl
  refine' take_at 7 rfl (by kernel_rfl) (by kernel_rfl) (by kernel_rfl) (fun _ _ _ h => h) (by rfl) hS ?_ ?_ ?_
  rotate_left 2
  · intro W hSW; go_simp; try with_reducible rfl
  · simp only [List.set_cons_succ, List.set_cons_zero]; rfl
  refine' take_at 8 rfl (by kernel_rfl) (by kernel_rfl) (by kernel_rfl) (fun _ _ _ h => h) (by rfl) hS ?_ ?_ ?_
  rotate_left 2
  · intro W hSW; go_simp; try with_reducible rfl
  · simp only [List.set_cons_succ, List.set_cons_zero]; rfl
  refine' take_at 9 rfl (by kernel_rfl) (by kernel_rfl) (by kernel_rfl) (fun _ _ _ h => h) (by rfl) hS ?_ ?_ ?_
  rotate_left 2
  · intro W hSW; go_simp; try with_reducible rfl
  · simp only [List.set_cons_succ, List.set_cons_zero]; rfl
  refine call_at 10 rfl (by kernel_rfl) (by rfl) (fun K hK => ?_)
  go_simp
  with_reducible refine (HSAME.out _ hS).mono ?_
  rintro e v3 ⟨rfl, hb3⟩
  have kb3 := below_on hS hb3
  clear hS hb3
  refine hK.out _ _ (by exact kb3) (fun hS => ?_)
  clear hK K
  refine' take_at 11 rfl (by kernel_rfl) (by kernel_rfl) (by kernel_rfl) (fun _ _ _ h => h) (by rfl) hS ?_ ?_ ?_
  rotate_left 2
  · intro W hSW; go_simp; try with_reducible rfl
  · simp only [List.set_cons_succ, List.set_cons_zero]; rfl
  refine' take_at 12 rfl (by kernel_rfl) (by kernel_rfl) (by kernel_rfl) (fun _ _ _ h => h) (by rfl) hS ?_ ?_ ?_
  rotate_left 2
  · intro W hSW; go_simp; try with_reducible rfl
  · simp only [List.set_cons_succ, List.set_cons_zero]; rfl
  refine' take_at 13 rfl (by kernel_rfl) (by kernel_rfl) (by kernel_rfl) (fun _ _ _ h => h) (by rfl) hS ?_ ?_ ?_
  rotate_left 2
  · intro W hSW; go_simp; try with_reducible rfl
  · simp only [List.set_cons_succ, List.set_cons_zero]; rfl
  refine' take_at 14 rfl (by kernel_rfl) (by kernel_rfl) (by kernel_rfl) (fun _ _ _ h => h) (by rfl) hS ?_ ?_ ?_
  rotate_left 2
  · intro W hSW; go_simp; try with_reducible rfl
  · simp only [List.set_cons_succ, List.set_cons_zero]; rfl
  refine' take_at 15 rfl (by kernel_rfl) (by kernel_rfl) (by kernel_rfl) (fun _ _ _ h => h) (by rfl) hS ?_ ?_ ?_
  rotate_left 2
  · intro W hSW; go_simp; try with_reducible rfl
  · simp only [List.set_cons_succ, List.set_cons_zero]; rfl
  refine' take_at 16 rfl (by kernel_rfl) (by kernel_rfl) (by kernel_rfl) (fun _ _ _ h => h) (by rfl) hS ?_ ?_ ?_
  rotate_left 2
  · intro W hSW; go_simp; try with_reducible rfl
  · simp only [List.set_cons_succ, List.set_cons_zero]; rfl
  refine' take_at 17 rfl (by kernel_rfl) (by kernel_rfl) (by kernel_rfl) (fun _ _ _ h => h) (by rfl) hS ?_ ?_ ?_
  rotate_left 2
  · intro W hSW; go_simp; try with_reducible rfl
  · simp only [List.set_cons_succ, List.set_cons_zero]; rfl
  refine' take_at 18 rfl (by kernel_rfl) (by kernel_rfl) (by kernel_rfl) (fun _ _ _ h => h) (by rfl) hS ?_ ?_ ?_
  rotate_left 2
  · intro W hSW; go_simp; try with_reducible rfl
  · simp only [List.set_cons_succ, List.set_cons_zero]; rfl
  refine' take_at 19 rfl (by kernel_rfl) (by kernel_rfl) (by kernel_rfl) (fun _ _ _ h => h) (by rfl) hS ?_ ?_ ?_
  rotate_left 2
  · intro W hSW; go_simp; try with_reducible rfl
  · simp only [List.set_cons_succ, List.set_cons_zero]; rfl
  refine' take_at 20 rfl (by kernel_rfl) (by kernel_rfl) (by kernel_rfl) (fun _ _ _ h => h) (by rfl) hS ?_ ?_ ?_
  rotate_left 2
  · intro W hSW; go_simp; try with_reducible rfl
  · simp only [List.set_cons_succ, List.set_cons_zero]; rfl
  refine' take_at 21 rfl (by kernel_rfl) (by kernel_rfl) (by kernel_rfl) (fun _ _ _ h => h) (by rfl) hS ?_ ?_ ?_
  rotate_left 2
  · intro W hSW; go_simp; try with_reducible rfl
  · simp only [List.set_cons_succ, List.set_cons_zero]; rfl
  refine' take_at 22 rfl (by kernel_rfl) (by kernel_rfl) (by kernel_rfl) (fun _ _ _ h => h) (by rfl) hS ?_ ?_ ?_
  rotate_left 2
  · intro W hSW; go_simp; try with_reducible rfl
  · simp only [List.set_cons_succ, List.set_cons_zero]; rfl
  refine' take_at 23 rfl (by kernel_rfl) (by kernel_rfl) (by kernel_rfl) (fun _ _ _ h => h) (by rfl) hS ?_ ?_ ?_
  rotate_left 2
  · intro W hSW; go_simp; try with_reducible rfl
  · simp only [List.set_cons_succ, List.set_cons_zero]; rfl
  refine' take_at 25 rfl (by kernel_rfl) (by kernel_rfl) (by kernel_rfl) (fun _ _ _ h => h) (by rfl) hS ?_ ?_ ?_
  rotate_left 2
  · intro W hSW; go_simp; try with_reducible rfl
  · simp only [List.set_cons_succ, List.set_cons_zero]; rfl
  refine call_at 24 rfl (by kernel_rfl) (by rfl) (fun K hK => ?_)
  go_simp
  with_reducible refine (HSZ.out _).mono ?_
  rintro e v4 ⟨rfl, rfl⟩
  have kb4 := hS
  clear hS
  refine hK.out _ _ (by exact kb4) (fun hS => ?_)
  clear hK K
  refine call_at 26 rfl (by kernel_rfl) (by rfl) (fun K hK => ?_)
  go_simp
  with_reducible refine (HRSZ.out _).mono ?_
  rintro e v5 ⟨rfl, rfl⟩
  have kb5 := hS
  clear hS
  refine hK.out _ _ (by exact kb5) (fun hS => ?_)
  clear hK K
  refine' take_at 27 rfl (by kernel_rfl) (by kernel_rfl) (by kernel_rfl) (fun _ _ _ h => h) (by rfl) hS ?_ ?_ ?_
  rotate_left 2
  · intro W hSW; go_simp; try with_reducible rfl
  · simp only [List.set_cons_succ, List.set_cons_zero]; rfl
  refine' take_at 28 rfl (by kernel_rfl) (by kernel_rfl) (by kernel_rfl) (fun _ _ _ h => h) (by rfl) hS ?_ ?_ ?_
  rotate_left 2
  · intro W hSW; go_simp; try with_reducible rfl
  · simp only [List.set_cons_succ, List.set_cons_zero]; rfl
  refine' take_at 29 rfl (by kernel_rfl) (by kernel_rfl) (by kernel_rfl) (fun _ _ _ h => h) (by rfl) hS ?_ ?_ ?_
  rotate_left 2
  · intro W hSW; go_simp; try with_reducible rfl
  · simp only [List.set_cons_succ, List.set_cons_zero]; rfl
  refine wpAnyH_done (by kernel_rfl) ?_ _
  refine NoPanic.normal ?_
  go_wp2_with fail
  go_ret
  exact ⟨rfl, below_on B7.out (below_on kb1 (below_on kb2 kb5))⟩

set_option maxHeartbeats 1600000 in
theorem law5Tells (k q n : Int) (A A2 : Option Addr) (l m : List UInt8) (c cm : Nat) (w : World) (h : Bs w A l) (hm : Bs w A2 m) (hcm : m.length ≤ cm) (hk1 : -9223372036854775808 ≤ k) (hk2 : k ≤ 9223372036854775807) (hq1 : -9223372036854775808 ≤ q) (hq2 : q ≤ 9223372036854775807)
    (hn1 : -9223372036854775808 ≤ n) (hn2 : n ≤ 9223372036854775807) (hl : l.length ≤ 9223372036854775807) (hml : m.length ≤ 9223372036854775807) :
    Calls Try.prog 3 #[.agg #[.int .i64 k, .int .i64 q, .slice A l.length c], .slice A2 m.length cm, .int .i64 n] w fun e w' => e = .returned (.bool true) ∧ Below w.heap.size w w' := by
  by_cases hall : l.length ≤ 600 ∧ m.length ≤ 700
  · exact tells_yes k q n A A2 l m c cm w h hm hcm hk1 hk2 hq1 hq2 hn1 hn2 hall.1 hall.2
  obtain ⟨ln, hln⟩ : ∃ n, l.length = n := ⟨_, rfl⟩
  rw [hln] at hall hl ⊢
  obtain ⟨nm, hnm⟩ : ∃ n, m.length = n := ⟨_, rfl⟩
  rw [hnm] at hall hml ⊢
  have hbox : Hid (Below w.heap.size w (w.alloc (.cells #[.int .i64 k, .int .i64 q, .slice A ln c] 24))) := Lib.hid ((Below.refl _ _).alloc (Nat.le_refl _) _)
  have hbc := box_cells w (.int .i64 k) (.int .i64 q) (.slice A ln c) 24
  obtain ⟨w0, Hw0⟩ : ∃ w0, Hid (w.alloc (.cells #[.int .i64 k, .int .i64 q, .slice A ln c] 24) = w0) := ⟨_, rfl⟩
  rw [Hw0.out] at hbox hbc
  have HC := Lib.hid hbc
  clear hln hbc h hm hnm hcm
  have HA := Lib.hid (alive5_any w0)
  have HALL := Lib.hid hall
  clear hall
  go_enter Try.func3, Try.ntmps3
  go_wp2_with fail
  rw [Hw0.out]
  with_reducible refine HA.out.mono ?_
  rintro e w1 ⟨rfl, hb1⟩
  obtain ⟨c0, c1, c2⟩ := HC.out w1 hb1
  have B1 := Lib.hid (below_on hbox.out hb1)
  clear c0 c1 hb1
  by_cases g1 : 600 < ln
  · have d1 : decide (600 < (ln : Int)) = true := decide_eq_true (by omega)
    go_wp2_with fail
    go_ret
    exact ⟨rfl, B1.out⟩
  have d1 : decide (600 < (ln : Int)) = false := decide_eq_false (by omega)
  have g2 : 700 < nm := by have := HALL.out; omega
  have d2 : decide (700 < (nm : Int)) = true := decide_eq_true (by omega)
  go_wp2_with fail
  go_ret
  exact ⟨rfl, B1.out⟩
end Go.Proofs.Ytddalnmoahpljaa

