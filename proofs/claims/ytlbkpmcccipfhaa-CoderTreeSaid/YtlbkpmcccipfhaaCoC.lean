/- The landed coder: New, Bit, Half, Done. -/
import Derived.Test.YtlbkpmcccipfhaaCoB
import Derived.Test.YtlbkpmcccipfhaaMod15b
namespace Go.Proofs.Ytlbkpmcccipfhaa
open Go.RowKit
set_option linter.unusedVariables false
set_option maxRecDepth 100000

/-- at block g lies the landed coder, in state c, within the blocks F -/
def coT : CoP := fun W g c F => ∃ A cap, c.ok ∧ PCs W g A cap c ∧ F = fun j => j = g ∨ At A j
theorem coT_base : CoB coT where
  ok := fun ⟨_, _, h, _⟩ => h
  lt := fun ⟨A, cap, _, h, e⟩ j hj => by subst e; rcases hj with rfl | hj; exact h.lt; exact h.at_ hj
  keep := fun Q ⟨A, cap, h0, h, e⟩ ho hq => ⟨A, cap, h0, by subst e; exact PCr.only h ho (hq _ (.inl rfl)) (fun j hj => hq _ (.inr hj)), e⟩
theorem PcPost.co {W w' : World} {g : Nat} {A : Option Addr} {c' : Cd} (hok : c'.ok) (h : PcPost W g A c' w') : CoPost coT W g c' (fun j => j = g ∨ At A j) w' := by
  obtain ⟨A', cap', h1, h2, h3⟩ := h
  have hg := h1.lt
  refine ⟨_, ⟨A', cap', hok, h1, rfl⟩, fun j hj => ?_, h3⟩
  rcases hj with rfl | hj
  · exact .inl (.inl rfl)
  · rcases h2 j hj with a | a
    · exact .inl (.inr a)
    · exact .inr a

set_option maxHeartbeats 800000 in
theorem pcnew_any : CoNewC coT := fun w => by
  have HE : Hid (coT (w.alloc (.cells #[.slice none 0 0, .int .u32 0, .int .u32 0] 56)) w.heap.size Cd.new (fun j => j = w.heap.size ∨ At none j) ∧ Below w.heap.size w (w.alloc (.cells #[.slice none 0 0, .int .u32 0, .int .u32 0] 56))) := Lib.hid
    ⟨⟨none, 0, Cd.new_ok, ⟨heap_alloc_new _ _, Ob.nil_ _ _ _, fun ⟨_, e, _⟩ => by cases e⟩, rfl⟩, (Below.refl _ _).alloc (Nat.le_refl _) _⟩
  go_enter Try.func9, Try.ntmps9
  go_wp2_with fail
  go_ret
  refine ⟨_, _, rfl, HE.out.1, fun j hj => ?_, HE.out.2⟩
  rcases hj with e | ⟨a, e, _⟩
  · rw [e]; exact Nat.le_refl _
  · cases e

set_option maxHeartbeats 1600000 in
theorem pcbit_any {W : World} {g : Nat} {c : Cd} {F : Nat → Prop} (h : coT W g c F) (hk : c.k ≤ 90000) (p bit : Int) :
    Calls Try.prog 13 #[.pointer (some ⟨g, 0, none⟩), .int .i64 p, .int .i64 bit] W fun e w' => e = .returned (.int .i64 (adI p bit : Int)) ∧ CoPost coT W g (c.bit p (decide (bit = 0))) F w' := by
  obtain ⟨A, cap, hok, hp, rfl⟩ := h
  have hok2 := Cd.bit_ok hok p (decide (bit = 0))
  have hlo := hok.lo
  have hhi := hok.hi
  have hfit := hok.fit
  have b1 := bnd_lo hlo p
  have b2 := bnd_rest hlo p
  have b3 := bnd_hi c.w p
  have HW := Lib.hid (pcwidth_any hp (wd := c.w) (by omega))
  have HH := Lib.hid (phold_any p)
  have HA := Lib.hid (padapt_any p bit)
  have HT0 : Hid (Calls Try.prog 28 #[.pointer (some ⟨g, 0, none⟩), .int .u32 0, .int .u32 (bnd c.w p : Int)] W fun e w' => e = .returned (.tuple #[]) ∧ PcPost W g A (Cd.str ⟨c.low, bnd c.w p, c.k⟩) w') :=
    Lib.hid (pctake_any hp 0 (bnd c.w p) (by omega) b1 (by omega) (by rw [Nat.add_zero]; generalize 4294967296 * 256 ^ c.k = q at *; omega) hk)
  have HT1 : Hid (Calls Try.prog 28 #[.pointer (some ⟨g, 0, none⟩), .int .u32 (bnd c.w p : Int), .int .u32 ((c.w - bnd c.w p : Nat) : Int)] W fun e w' => e = .returned (.tuple #[]) ∧ PcPost W g A (Cd.str ⟨c.low + bnd c.w p, c.w - bnd c.w p, c.k⟩) w') :=
    Lib.hid (pctake_any hp (bnd c.w p) (c.w - bnd c.w p) (by omega) b2 (by omega) (by generalize 4294967296 * 256 ^ c.k = q at *; omega) hk)
  have HEQ : Hid (c.bit p (decide (bit = 0)) = Cd.str (if decide (bit = 0) then ⟨c.low, bnd c.w p, c.k⟩ else ⟨c.low + bnd c.w p, c.w - bnd c.w p, c.k⟩)) := Lib.hid rfl
  obtain ⟨C2, hC2⟩ : ∃ C2, c.bit p (decide (bit = 0)) = C2 := ⟨_, rfl⟩
  rw [hC2] at hok2 HEQ ⊢
  have HOK := Lib.hid hok2
  have hbn : bnd c.w p = c.w / 2048 * holdI p := rfl
  have hho := holdI_hi p
  obtain ⟨b, hb⟩ : ∃ b, bnd c.w p = b := ⟨_, rfl⟩
  rw [hb] at HT0 HT1 HEQ b1 b2 b3 hbn
  obtain ⟨wd, hwd⟩ : ∃ wd, c.w = wd := ⟨_, rfl⟩
  rw [hwd] at HT1 HEQ HW b2 b3 hbn hlo hhi
  obtain ⟨r, hr⟩ : ∃ r, wd - b = r := ⟨_, rfl⟩
  rw [hr] at HT1 HEQ b2
  obtain ⟨m, hm⟩ : ∃ m, wd / 2048 = m := ⟨_, rfl⟩
  rw [hm] at hbn b3
  obtain ⟨q, hq⟩ : ∃ q, holdI p = q := ⟨_, rfl⟩
  rw [hq] at hbn HH hho
  have t1 : (wd : Int) / 2048 = (m : Int) := by omega
  have t2 : IntKind.u32.wrap (q : Int) = (q : Int) := by rw [IntKind.wrap_u32]; omega
  have hmq : (m : Int) * (q : Int) = (b : Int) := by rw [hbn]; simp
  have t3 : IntKind.u32.wrap ((m : Int) * (q : Int)) = (b : Int) := by rw [hmq, IntKind.wrap_u32]; omega
  have t4 : IntKind.u32.wrap ((wd : Int) - (b : Int)) = (r : Int) := by rw [IntKind.wrap_u32]; omega
  have t4' : (wd : Int) - (b : Int) = (r : Int) := by omega
  have t5 : IntKind.u32.wrap (m : Int) = (m : Int) := by rw [IntKind.wrap_u32]; omega
  have t6 : (b : Int) % 4294967296 = (b : Int) := by omega
  have t7 : (r : Int) % 4294967296 = (r : Int) := by omega
  obtain ⟨ad, had⟩ : ∃ x, adI p bit = x := ⟨_, rfl⟩
  rw [had] at HA ⊢
  clear hp hok hok2 hlo hhi hfit b1 b2 b3 hC2 hb hwd hr hm hq hbn hho had hk
  by_cases hz : bit = 0
  · rw [decide_eq_true hz, if_pos rfl] at HEQ
    subst hz
    rw [← HEQ.out] at HT0
    clear HT1 HEQ
    go_enter Try.func13, Try.ntmps13
    go_wp2_with fail
    with_reducible refine HW.out.mono ?_
    rintro e w' ⟨rfl, rfl⟩
    go_wp2_with fail
    with_reducible refine (HH.out _).mono ?_
    rintro e w' ⟨rfl, rfl⟩
    go_wp2_with fail
    with_reducible refine HT0.out.mono ?_
    rintro e w2 ⟨rfl, hp2⟩
    have HP2 := Lib.hid hp2
    clear hp2 HT0
    go_wp2_with fail
    with_reducible refine (HA.out _).mono ?_
    rintro e w' ⟨rfl, rfl⟩
    go_wp2_with fail
    go_ret
    exact ⟨rfl, HP2.out.co HOK.out⟩
  · have hd : decide (bit = 0) = false := decide_eq_false hz
    rw [hd, if_neg (by decide)] at HEQ
    rw [← HEQ.out] at HT1
    clear HT0 HEQ
    go_enter Try.func13, Try.ntmps13
    go_wp2_with fail
    with_reducible refine HW.out.mono ?_
    rintro e w' ⟨rfl, rfl⟩
    go_wp2_with fail
    with_reducible refine (HH.out _).mono ?_
    rintro e w' ⟨rfl, rfl⟩
    go_wp2_with fail
    with_reducible refine HT1.out.mono ?_
    rintro e w2 ⟨rfl, hp2⟩
    have HP2 := Lib.hid hp2
    clear hp2 HT1
    go_wp2_with fail
    with_reducible refine (HA.out _).mono ?_
    rintro e w' ⟨rfl, rfl⟩
    go_wp2_with fail
    go_ret
    exact ⟨rfl, HP2.out.co HOK.out⟩

set_option maxHeartbeats 1600000 in
theorem pchalf_any {W : World} {g : Nat} {c : Cd} {F : Nat → Prop} (h : coT W g c F) (hk : c.k ≤ 90000) (bit : Int) :
    Calls Try.prog 15 #[.pointer (some ⟨g, 0, none⟩), .int .i64 bit] W fun e w' => e = .returned (.tuple #[]) ∧ CoPost coT W g (c.half (decide (bit = 0))) F w' := by
  obtain ⟨A, cap, hok, hp, rfl⟩ := h
  have hok2 := Cd.half_ok hok (decide (bit = 0))
  have hlo := hok.lo
  have hhi := hok.hi
  have hfit := hok.fit
  have HW := Lib.hid (pcwidth_any hp (wd := c.w) (by omega))
  have HT0 : Hid (Calls Try.prog 28 #[.pointer (some ⟨g, 0, none⟩), .int .u32 0, .int .u32 ((c.w / 2 : Nat) : Int)] W fun e w' => e = .returned (.tuple #[]) ∧ PcPost W g A (Cd.str ⟨c.low, c.w / 2, c.k⟩) w') :=
    Lib.hid (pctake_any hp 0 (c.w / 2) (by omega) (by omega) (by omega) (by rw [Nat.add_zero]; generalize 4294967296 * 256 ^ c.k = q at *; omega) hk)
  have HT1 : Hid (Calls Try.prog 28 #[.pointer (some ⟨g, 0, none⟩), .int .u32 ((c.w / 2 : Nat) : Int), .int .u32 ((c.w / 2 : Nat) : Int)] W fun e w' => e = .returned (.tuple #[]) ∧ PcPost W g A (Cd.str ⟨c.low + c.w / 2, c.w / 2, c.k⟩) w') :=
    Lib.hid (pctake_any hp (c.w / 2) (c.w / 2) (by omega) (by omega) (by omega) (by generalize 4294967296 * 256 ^ c.k = q at *; omega) hk)
  have HEQ : Hid (c.half (decide (bit = 0)) = Cd.str (if decide (bit = 0) then ⟨c.low, c.w / 2, c.k⟩ else ⟨c.low + c.w / 2, c.w / 2, c.k⟩)) := Lib.hid rfl
  obtain ⟨C2, hC2⟩ : ∃ C2, c.half (decide (bit = 0)) = C2 := ⟨_, rfl⟩
  rw [hC2] at hok2 HEQ ⊢
  have HOK := Lib.hid hok2
  obtain ⟨wd, hwd⟩ : ∃ wd, c.w = wd := ⟨_, rfl⟩
  rw [hwd] at HT0 HT1 HEQ HW hlo hhi
  obtain ⟨m, hm⟩ : ∃ m, wd / 2 = m := ⟨_, rfl⟩
  rw [hm] at HT0 HT1 HEQ
  have t1 : (wd : Int).tdiv 2 = (m : Int) := by rw [Int.tdiv_eq_ediv_of_nonneg (by omega)]; omega
  have t1' : (wd : Int) / 2 = (m : Int) := by omega
  have t2 : IntKind.u32.wrap (m : Int) = (m : Int) := by rw [IntKind.wrap_u32]; omega
  clear hp hok hok2 hlo hhi hfit hC2 hwd hm hk
  by_cases hz : bit = 0
  · rw [decide_eq_true hz, if_pos rfl] at HEQ
    subst hz
    rw [← HEQ.out] at HT0
    clear HT1 HEQ
    go_enter Try.func15, Try.ntmps15
    go_wp2_with fail
    with_reducible refine HW.out.mono ?_
    rintro e w' ⟨rfl, rfl⟩
    go_wp2_with fail
    with_reducible refine HT0.out.mono ?_
    rintro e w2 ⟨rfl, hp2⟩
    have HP2 := Lib.hid hp2
    clear hp2 HT0
    go_wp2_with fail
    refine bodyPost_end (results_none rfl _ _ _) rfl ?_
    exact ⟨rfl, HP2.out.co HOK.out⟩
  · have hd : decide (bit = 0) = false := decide_eq_false hz
    rw [hd, if_neg (by decide)] at HEQ
    rw [← HEQ.out] at HT1
    clear HT0 HEQ
    go_enter Try.func15, Try.ntmps15
    go_wp2_with fail
    with_reducible refine HW.out.mono ?_
    rintro e w' ⟨rfl, rfl⟩
    go_wp2_with fail
    with_reducible refine HT1.out.mono ?_
    rintro e w2 ⟨rfl, hp2⟩
    have HP2 := Lib.hid hp2
    clear hp2 HT1
    go_wp2_with fail
    refine bodyPost_end (results_none rfl _ _ _) rfl ?_
    exact ⟨rfl, HP2.out.co HOK.out⟩

theorem row_four16 {W : World} {g : Nat} {a b c d : UInt8} {fr : Nat × Nat} (h : W.heap[g]? = some (.cells #[.int .u8 (a.toNat : Int), .int .u8 (b.toNat : Int), .int .u8 (c.toNat : Int), .int .u8 (d.toNat : Int)] 5 fr)) : Bs W (some ⟨g, 0, none⟩) [a, b, c, d] := fun _ => ⟨g, 0, rfl, fun j hj => by
  have hj4 : j < 4 := hj
  rw [Nat.zero_add, cell_of_row _ _ _ _ _ _ h]
  rcases (show j = 0 ∨ j = 1 ∨ j = 2 ∨ j = 3 by omega) with rfl | rfl | rfl | rfl <;> rfl⟩
theorem bgB_four (k low : Nat) : bgB (4 + k) low = bgB k (low / 4294967296) ++ [UInt8.ofNat (low % 4294967296 / 16777216), UInt8.ofNat (low % 4294967296 / 65536 % 256), UInt8.ofNat (low % 4294967296 / 256 % 256), UInt8.ofNat (low % 4294967296 % 256)] := by
  have h0 := bgB_more k (low / 4294967296) (low % 4294967296 / 16777216) (by omega)
  have h1 := bgB_more (k + 1) (low / 4294967296 * 256 + low % 4294967296 / 16777216) (low % 4294967296 / 65536 % 256) (by omega)
  have h2 := bgB_more (k + 1 + 1) ((low / 4294967296 * 256 + low % 4294967296 / 16777216) * 256 + low % 4294967296 / 65536 % 256) (low % 4294967296 / 256 % 256) (by omega)
  have h3 := bgB_more (k + 1 + 1 + 1) (((low / 4294967296 * 256 + low % 4294967296 / 16777216) * 256 + low % 4294967296 / 65536 % 256) * 256 + low % 4294967296 / 256 % 256) (low % 4294967296 % 256) (by omega)
  have e : (((low / 4294967296 * 256 + low % 4294967296 / 16777216) * 256 + low % 4294967296 / 65536 % 256) * 256 + low % 4294967296 / 256 % 256) * 256 + low % 4294967296 % 256 = low := by omega
  rw [e] at h3
  rw [show 4 + k = k + 1 + 1 + 1 + 1 by omega, h3, h2, h1, h0]
  simp

theorem Ob.own16 {E : TypeId} {w : World} {base : Nat} {v : Value} {l : List UInt8} (h : Ob E w base v l) : ∀ k, v.ownBlock = some k → base ≤ k := by
  obtain ⟨A', c', rfl, _, hf⟩ := h.form
  intro k hk
  rcases hf with rfl | ⟨g', rfl, hle, _⟩
  · simp [Value.ownBlock] at hk
  · simp [Value.ownBlock] at hk
    omega
set_option maxHeartbeats 1600000 in
theorem pcdone_any : CoDoneC coT := fun {W g c F} h hk => by
  obtain ⟨A, cap, hok, hp, rfl⟩ := h
  have c0 := hp.c0
  have c1 := hp.c1
  have hlen : (bgB c.k (c.low / 4294967296)).length = c.k := bgB_len _ _
  rw [hlen] at c0
  have HCL : Hid (Calls Try.prog 35 #[.slice A c.k cap] W fun e w' => ∃ v, e = .returned v ∧ Ob 5 w' W.heap.size v (bgB c.k (c.low / 4294967296)) ∧ Below W.heap.size W w') := Lib.hid (by
    have := sclone16_any A _ cap W hp.ob.bs (by rw [hlen]; omega)
    rwa [hlen] at this)
  have hout : c.out = _ := bgB_four c.k c.low
  rw [hout]
  obtain ⟨H, hH⟩ : ∃ H, bgB c.k (c.low / 4294967296) = H := ⟨_, rfl⟩
  rw [hH] at HCL hlen ⊢
  have hlol : c.low % 4294967296 < 4294967296 := Nat.mod_lt _ (by decide)
  obtain ⟨lo, hlo⟩ : ∃ lo, c.low % 4294967296 = lo := ⟨_, rfl⟩
  rw [hlo] at c1 hlol ⊢
  obtain ⟨q3, e3⟩ : ∃ q, lo / 16777216 = q := ⟨_, rfl⟩
  obtain ⟨q2, e2⟩ : ∃ q, lo / 65536 = q := ⟨_, rfl⟩
  obtain ⟨q1, e1⟩ : ∃ q, lo / 256 = q := ⟨_, rfl⟩
  obtain ⟨x2, f2⟩ : ∃ q, q2 % 256 = q := ⟨_, rfl⟩
  obtain ⟨x1, f1⟩ : ∃ q, q1 % 256 = q := ⟨_, rfl⟩
  obtain ⟨x0, f0⟩ : ∃ q, lo % 256 = q := ⟨_, rfl⟩
  rw [e3, e2, e1, f2, f1, f0]
  have t3 : (lo : Int) / 16777216 = (q3 : Int) := by omega
  have t2 : (lo : Int) / 65536 = (q2 : Int) := by omega
  have t1 : (lo : Int) / 256 = (q1 : Int) := by omega
  have u3 : IntKind.u8.wrap (q3 : Int) = (q3 : Int) := by rw [IntKind.wrap_u8]; omega
  have u2 : IntKind.u8.wrap (q2 : Int) = (x2 : Int) := by rw [IntKind.wrap_u8]; omega
  have u1 : IntKind.u8.wrap (q1 : Int) = (x1 : Int) := by rw [IntKind.wrap_u8]; omega
  have u0 : IntKind.u8.wrap (lo : Int) = (x0 : Int) := by rw [IntKind.wrap_u8]; omega
  have v3 : IntKind.u32.wrap (q3 : Int) = (q3 : Int) := by rw [IntKind.wrap_u32]; omega
  have v2 : IntKind.u32.wrap (q2 : Int) = (q2 : Int) := by rw [IntKind.wrap_u32]; omega
  have v1 : IntKind.u32.wrap (q1 : Int) = (q1 : Int) := by rw [IntKind.wrap_u32]; omega
  have HX : Hid ((UInt8.ofNat q3).toNat = q3 ∧ (UInt8.ofNat x2).toNat = x2 ∧ (UInt8.ofNat x1).toNat = x1 ∧ (UInt8.ofNat x0).toNat = x0) := Lib.hid ⟨by simp; omega, by simp; omega, by simp; omega, by simp; omega⟩
  have HHL := Lib.hid hlen
  have HKK := Lib.hid hk
  obtain ⟨k, hk2⟩ : ∃ k, c.k = k := ⟨_, rfl⟩
  rw [hk2] at c0 HCL HHL HKK
  clear hp hok hout hH hlo hlol e3 e2 e1 f2 f1 f0 hlen hk hk2
  go_enter Try.func19, Try.ntmps19
  go_wp2_with fail
  with_reducible refine HCL.out.mono ?_
  rintro e w2 ⟨v, rfl, ho, hb⟩
  obtain ⟨Av, cv, rfl, hbs, hat⟩ := ho.form
  have HO := Lib.hid ho
  have HB := Lib.hid hb
  clear ho hb HCL c0 c1 hbs hat
  have HBS : Hid (∀ X, X = Obj.cells #[.int .u8 (q3 : Int), .int .u8 (x2 : Int), .int .u8 (x1 : Int), .int .u8 (x0 : Int)] 5 (0, 0) → Bs (w2.alloc X) (some ⟨w2.heap.size, 0, none⟩) [UInt8.ofNat q3, UInt8.ofNat x2, UInt8.ofNat x1, UInt8.ofNat x0]) := Lib.hid fun X hX => row_four16 (W := w2.alloc X) (g := w2.heap.size) (fr := (0, 0)) (by rw [HX.out.1, HX.out.2.1, HX.out.2.2.1, HX.out.2.2.2, ← hX]; exact heap_alloc_new _ _)
  rw [HHL.out] at HO
  rw [HHL.out]
  go_wp2_with (at_builtin; refine wpList_append_bs rfl (.tmp 14) (.tmp 26) 38 rfl W.heap.size 5 Try.underlying38 info5 _ H rfl (HO.out.below ((Below.refl _ _).alloc (Nat.le_refl _) _)) _ [UInt8.ofNat q3, UInt8.ofNat x2, UInt8.ofNat x1, UInt8.ofNat x0] 4 4 rfl rfl (HBS.out _ rfl) (by have := HHL.out; have := HKK.out; simp; omega) (by have := HB.out.size; simp; omega) ?_; intro v3 w3 ho3 hgr3)
  have HO3 := Lib.hid ho3
  have HB3 : Hid (Below W.heap.size W w3) := Lib.hid ((HB.out.alloc HB.out.size _).grown hgr3 (by have := HB.out.size; simp; omega) (fun k hk => HO.out.own16 k hk))
  clear ho3 hgr3 HO HB HBS
  go_wp2_with fail
  go_ret
  exact ⟨_, rfl, HO3.out, HB3.out⟩
end Go.Proofs.Ytlbkpmcccipfhaa

