/- Both flashes from New on, through a row of calls. -/
import Derived.Test.YtlnpfndjdilfhaaLaw2Few
import Derived.Test.YtlnpfndjdilfhaaNorIsBlank
namespace Go.Proofs.Ytlnpfndjdilfhaa
open Go.RowKit
set_option linter.unusedVariables false

def dnw (n : Nat) : Dl := ⟨blanks n, List.replicate n 0, 0, false, false, 0, []⟩
def rnw (n : Nat) : Fl := ⟨blanks n, List.replicate n 0, 0, -1, [], false⟩
theorem dnw_ok (n : Nat) (h : n ≤ 65536) : DlOk (dnw n) :=
  ⟨by show (blanks n).length = 1024 * (List.replicate n (0 : Int)).length; rw [blanks_len, List.length_replicate], by show (List.replicate n (0 : Int)).length ≤ _; rw [List.length_replicate]; exact h,
    fun x hx => by
      have hx' : x ∈ List.replicate n (0 : Int) := hx
      have := (List.mem_replicate.1 hx').2
      omega, by show (0 : Int) ≤ 0; omega, by show (0 : Int) ≤ _; omega, by show (0 : Int) ≤ 0; omega, by show (0 : Int) ≤ _; omega, by show ([] : List UInt8).length ≤ _; simp⟩
theorem rnw_ok (n : Nat) (h : n ≤ 65536) : FlOk (rnw n) :=
  ⟨by show (blanks n).length = 1024 * (List.replicate n (0 : Int)).length; rw [blanks_len, List.length_replicate], by show (List.replicate n (0 : Int)).length ≤ _; rw [List.length_replicate]; exact h,
    fun x hx => by
      have hx' : x ∈ List.replicate n (0 : Int) := hx
      have := (List.mem_replicate.1 hx').2
      omega, by show (0 : Int) ≤ 0; omega, by show (0 : Int) ≤ _; omega, by show (-1 : Int) ≤ -1; omega, by show (-1 : Int) ≤ _; omega, by show ([] : List UInt8).length ≤ _; simp⟩
theorem sim_new (n : Nat) : Sim (dnw n) (rnw n) := ⟨rfl, rfl, rfl, rfl, .inl ⟨rfl, by show (-1 : Int) < 0; omega⟩⟩

/-- behind k calls -/
def Play (N : Nat) (w0 : World) (p : Ad) (n k : Nat) (wr : World) : Prop :=
  ∃ d f, Pair N wr p d f ∧ Sim d f ∧ DlOk d ∧ FlOk f ∧ d.steps ≤ 1100 * (k : Int) ∧ (∀ x ∈ d.worn, x ≤ (k : Int)) ∧ d.worn.length = n ∧ Below w0.heap.size w0 wr ∧ ∀ j, AdF p j → w0.heap.size ≤ j

theorem play_new {w w2 w3 : World} {g gB gW cB cW h hB hW kB kW n : Nat} (hn : n ≤ 65536) (hd : ∀ N, DevFl w2 g gB gW cB cW N (dnw n)) (h1 : w.heap.size ≤ g) (h2 : w.heap.size ≤ gB) (h3 : w.heap.size ≤ gW) (hb2 : Below w.heap.size w w2)
    (hr : ∀ N, RefFl w3 h hB hW kB kW N (rnw n)) (q1 : w2.heap.size ≤ h) (q2 : w2.heap.size ≤ hB) (q3 : w2.heap.size ≤ hW) (hb3 : Below w2.heap.size w2 w3) {w0 : World} (hb0 : Below w0.heap.size w0 w) :
    Play w3.heap.size w0 ⟨g, gB, gW, cB, cW, h, hB, hW, kB, kW⟩ n 0 w3 := by
  obtain ⟨z1, z2, z3⟩ := (hd 0).blk
  obtain ⟨y1, y2, y3⟩ := (hr 0).blk
  have := hb3.size
  have := hb0.size
  refine ⟨dnw n, rnw n, ⟨(hd _).below hb3, hr _, ?_, ?_, Nat.le_refl _⟩, sim_new n, dnw_ok n hn, rnw_ok n hn, by show (0 : Int) ≤ _; omega, ?_, by show (List.replicate n (0 : Int)).length = n; rw [List.length_replicate], below_on (below_on hb0 hb2) hb3, ?_⟩
  · rintro j ((rfl | rfl | rfl) | (rfl | rfl | rfl)) <;> (try dsimp only) <;> omega
  · rintro j (rfl | rfl | rfl) (e | e | e) <;> simp at e <;> omega
  · intro x hx
    have hx' : x ∈ List.replicate n (0 : Int) := hx
    have := (List.mem_replicate.1 hx').2
    omega
  · rintro j ((rfl | rfl | rfl) | (rfl | rfl | rfl)) <;> (try dsimp only) <;> omega

theorem play_in {N : Nat} {w0 wr : World} {p : Ad} {n k : Nat} (h : Play N w0 p n k wr) (hk : k ≤ 1000) (hn : 0 < n) {a : ActD} {g o : Nat} (ha : ActAt w0 g o a) (hl : a.b.length ≤ 1100) :
    ∃ d f, DoIn N wr p d f a.t a.n a.A a.b a.c ∧ (∀ e w', DoPost N wr p d e w' → e = .returned (.bool true) ∧ Play N w0 p n (k + 1) w') := by
  obtain ⟨d, f, hp, hs, ok, rok, hst, hwn, hwl, hb, hlo⟩ := h
  refine ⟨d, f, ⟨hp, hs, ok, rok, ha.b.below hb, ?_, ha.c, hl, by omega, fun x hx => by have := hwn x hx; omega, by omega, ha.t1, ha.t2, ha.n1, ha.n2⟩, ?_⟩
  · intro hpos j hj hf
    obtain ⟨b, o', e, hc⟩ := ha.b hpos
    obtain ⟨a', e', rfl⟩ := hj
    rw [e] at e'
    injection e' with e'
    subst e'
    have := World.block_lt_of_cell? w0 _ (hc 0 hpos)
    have := hlo _ hf
    simp at *
    omega
  · rintro e w' ⟨he, d', f', hp', hs', hnum, rok', ho⟩
    refine ⟨he, d', f', hp', hs', hnum.ok, rok', by have := hnum.steps; omega, fun x hx => by have := hnum.worn k hwn x hx; omega, hnum.len.trans hwl, hb.trans (ho.below hb.size (fun j hj hf => by have := hlo j hf; omega)), hlo⟩

/-- what is known while sectors are erased with nothing armed -/
structure Calm (d : Dl) (i : Nat) : Prop where
  ok : DlOk d
  off : d.off = false
  armed : d.armed = false
  wl : d.worn.length = 2
  steps : d.steps ≤ 40000 + (i : Int)
  worn : ∀ x ∈ d.worn, x ≤ 40 + (i : Int)
  blank : ∀ j, j < 2048 → (j < 1024 ∧ 1 ≤ i ∨ 1024 ≤ j ∧ 2 ≤ i) → d.b.getD j 0 = 255
theorem calm_erase {d : Dl} {i : Nat} (h : Calm d i) (hi : i ≤ 20) : ∃ d', deraseOf d ((i % 2 : Nat) : Int) = (0, d') ∧ Calm d' (i + 1) := by
  have hn := deraseOf_num d h.ok ((i % 2 : Nat) : Int) (by have := h.steps; omega) (fun x hx => by have := h.worn x hx; omega)
  have hb := h.ok.len
  rw [h.wl] at hb
  have e : deraseOf d ((i % 2 : Nat) : Int) = (0, dwithB ⟨d.b, d.worn.set (i % 2) (d.worn.getD (i % 2) 0 + 1), d.steps + 1, d.off, d.armed, d.after, d.pick⟩ (laid d.b (1024 * (i % 2)) (List.replicate 1024 255))) := by
    unfold deraseOf
    rw [if_neg (by rw [h.off]; simp), if_pos (by rw [h.wl]; omega), Int.toNat_natCast]
    unfold deraseIn
    rw [dstepOf_calm' _ (show (dwithW d (d.worn.set (i % 2) (d.worn.getD (i % 2) 0 + 1))).armed = false from h.armed)]
    rfl
  rw [e] at hn
  refine ⟨_, e, hn.ok, h.off, h.armed, hn.len.trans h.wl, by show d.steps + 1 ≤ 40000 + ((i + 1 : Nat) : Int); have := h.steps; omega, fun x hx => by have := hn.worn _ h.worn x hx; omega, fun j hj hc => ?_⟩
  show (laid d.b (1024 * (i % 2)) (List.replicate 1024 255)).getD j 0 = 255
  rw [laid_get (by omega), List.length_replicate]
  by_cases hin : 1024 * (i % 2) ≤ j ∧ j < 1024 * (i % 2) + 1024
  · rw [if_pos hin, getD_rep _ _ _ (by omega)]
  · rw [if_neg hin]
    exact h.blank j hj (by omega)
theorem calm_blank {d : Dl} {i : Nat} (h : Calm d i) (hi : 2 ≤ i) : d.b.all (· == 255) = true := by
  rw [List.all_eq_true]
  intro x hx
  obtain ⟨j, hj, rfl⟩ := List.getElem_of_mem hx
  have hb := h.ok.len
  rw [h.wl] at hb
  have := h.blank j (by omega) (by omega)
  simp [List.getD, hj] at this
  simp [this]

set_option maxRecDepth 100000 in
set_option maxHeartbeats 3200000 in
theorem law2Boots (A0 : Option Addr) (L : List ActD) (c0 : Nat) (after : Int) (w : World) (hL : Acts w A0 L) (hLm : L.length ≤ 9223372036854775807) (ha1 : -9223372036854775808 ≤ after) (ha2 : after ≤ 9223372036854775807) :
    Calls Try.prog 6 #[.slice A0 L.length c0, .int .i64 after] w fun e w' => e = .returned (.bool true) ∧ Below w.heap.size w w' := by
  by_cases hask : fewB L = true ∧ after ≤ 1000
  · obtain ⟨hfew, haf⟩ := hask
    have HFEW : Hid (∀ W, Below w.heap.size w W → Calls Try.prog 8 #[.slice A0 L.length c0] W fun e w' => e = .returned (.bool true) ∧ W = w') := Lib.hid (fun W hW => by rw [← hfew]; exact few_any W A0 L c0 (hL.below hW) hLm)
    have Hfew : Hid (fewB L = true) := hfew
    have HND : Hid (∀ W, Calls Try.prog 9 #[.int .i64 2] W (DNewPost W 2)) := Lib.hid (fun W => dnew_any 2 2 W (by show (if (2 : Int) < 1 then 1 else if 256 < (2 : Int) then 256 else 2) = ((2 : Nat) : Int); decide) (by omega) (by omega))
    have HNR : Hid (∀ W, Calls Try.prog 10 #[.int .i64 2] W (NewPost W 2)) := Lib.hid (fun W => rnew_any 2 2 W (by show (if (2 : Int) < 1 then 1 else if 256 < (2 : Int) then 256 else 2) = ((2 : Nat) : Int); decide) (by omega) (by omega))
    have HL := Lib.hid hL
    have d1 : decide (1000 < after) = false := decide_eq_false (by omega)
    clear hfew hL
    go_enter Try.func6, Try.ntmps6
    go_wp2_with fail
    refine (alive2_any _).mono ?_
    rintro e w1 ⟨rfl, hb1⟩
    have B1 := Lib.hid hb1
    clear hb1
    go_wp2_with fail
    refine (HFEW.out _ B1.out).mono ?_
    rintro e w' ⟨rfl, rfl⟩
    go_wp2_with fail
    refine (HND.out _).mono ?_
    rintro e w2 ⟨g, gB, gW, cB, cW, rfl, hf, hb2, hg, hgB, hgW⟩
    have HF := Lib.hid hf
    have B2 := Lib.hid hb2
    have G1 : Hid (w1.heap.size ≤ g ∧ w1.heap.size ≤ gB ∧ w1.heap.size ≤ gW) := Lib.hid ⟨hg, hgB, hgW⟩
    clear hf hb2 hg hgB hgW
    go_wp2_with fail
    refine (HNR.out _).mono ?_
    rintro e w3 ⟨h, hB, hW, kB, kW, rfl, hr, hb3, q1, q2, q3⟩
    have HPL : Hid (Play w3.heap.size w ⟨g, gB, gW, cB, cW, h, hB, hW, kB, kW⟩ 2 0 w3) := Lib.hid (play_new (by omega) HF.out G1.out.1 G1.out.2.1 G1.out.2.2 B2.out hr q1 q2 q3 hb3 B1.out)
    obtain ⟨p, Hp⟩ : ∃ p : Ad, Hid ((⟨g, gB, gW, cB, cW, h, hB, hW, kB, kW⟩ : Ad) = p) := ⟨_, rfl⟩
    rw [Hp.out] at HPL
    obtain rfl : p.g = g := by rw [← Hp.out]
    obtain rfl : p.h = h := by rw [← Hp.out]
    clear hr hb3 q1 q2 q3
    obtain ⟨N, HN⟩ : ∃ N, Hid (w3.heap.size = N) := ⟨_, rfl⟩
    rw [HN.out] at HPL
    go_wp2_with fail
    go_loopw [8] (fun i wr => ∃ k : Nat, k ≤ L.length ∧ i = .int .i64 k ∧ Hid (Play N w p 2 k wr)) (fun i _ => L.length - (intOf i).toNat)
    case atStart => exact ⟨0, Nat.zero_le _, rfl, HPL⟩
    case round =>
      obtain ⟨k, hk, rfl, HK⟩ := hrel
      have hl30 : L.length ≤ 30 := by have := Hfew.out; unfold fewB at this; rw [Bool.and_eq_true] at this; exact of_decide_eq_true this.1
      by_cases hlt : k < L.length
      · obtain ⟨ga, oa, rfl, hat⟩ := HL.out (by omega)
        have ha0 := hat k hlt
        obtain ⟨a, Ha⟩ : ∃ a, Hid (L[k] = a) := ⟨L[k], Lib.hid rfl⟩
        rw [Ha.out] at ha0
        have hal : a.b.length ≤ 1100 := by have := Hfew.out; unfold fewB at this; rw [Bool.and_eq_true, List.all_eq_true] at this; have := this.2 L[k] (List.getElem_mem hlt); rw [Ha.out] at this; exact of_decide_eq_true this
        obtain ⟨d, f, hin, hout⟩ := play_in HK.out (by omega) (by omega) ha0 hal
        obtain ⟨-, -, -, -, -, -, -, -, -, -, -, hbw, -⟩ : ∃ x : Nat, True ∧ True ∧ True ∧ True ∧ True ∧ True ∧ True ∧ True ∧ True ∧ True ∧ (Below w.heap.size w wr) ∧ True := ⟨0, trivial, trivial, trivial, trivial, trivial, trivial, trivial, trivial, trivial, trivial, (by obtain ⟨_, _, _, _, _, _, _, _, _, hb, _⟩ := HK.out; exact hb), trivial⟩
        have ha1' := ha0.below hbw
        have e1 := ha1'.k
        have e2 := ha1'.t
        have e3 := ha1'.n
        have e4 := ha1'.s
        have HIN := Lib.hid hin
        have HOUT := Lib.hid hout
        clear hat ha0 hin hout hbw ha1'
        go_wp2_with fail
        refine (do_any a.k HIN.out).mono ?_
        rintro e w' hpost
        obtain ⟨rfl, hnext⟩ := HOUT.out _ _ hpost
        have HNX := Lib.hid hnext
        clear hnext hpost e1 e2 e3 e4
        go_wp2_with fail
        go_roundw
        case rel => exact ⟨k + 1, by omega, by go_num, HNX⟩
        case measure => simp [intOf]; omega
      · have hkl : k = L.length := by omega
        subst hkl
        obtain ⟨d, f, hp, hs, ok, rok, hst, hwn, hwl, hbw, hlo⟩ := HK.out
        have HD := Lib.hid hp.dev
        have BW := Lib.hid hbw
        have G2 : Hid (w.heap.size ≤ p.g ∧ w.heap.size ≤ p.gB ∧ w.heap.size ≤ p.gW) := Lib.hid ⟨hlo _ (.inl (.inl rfl)), hlo _ (.inl (.inr (.inl rfl))), hlo _ (.inl (.inr (.inr rfl)))⟩
        have hbl : d.b.length = 2048 := by rw [ok.len, hwl]
        have HCA : Hid (Calm ⟨d.b, d.worn, d.steps, false, false, 0, []⟩ 0) := Lib.hid ⟨⟨ok.len, ok.few, ok.worn, ok.s0, ok.s1, by show (0 : Int) ≤ 0; omega, by show (0 : Int) ≤ _; omega, by show ([] : List UInt8).length ≤ _; simp⟩, rfl, rfl, hwl, by show d.steps ≤ _; omega, fun x hx => by have := hwn x hx; omega, fun j _ hj => by omega⟩
        have HZN : Hid (N ≤ wr.heap.size) := hp.size
        have HBL := Lib.hid hbl
        clear hp hs ok rok hst hwn hwl hbw hlo hbl
        -- what stands
        have hpk := dpeek_any HD.out 0 2048 (by omega) (by omega) (by omega) (by omega) (by have := HBL.out; omega)
        have hpe : peekOf d 0 2048 = d.b := by
          unfold peekOf
          rw [if_pos (by have := HBL.out; omega)]
          have e : Int.toNat 2048 = d.b.length := by rw [HBL.out]; rfl
          rw [e]
          exact cut_self _
        rw [hpe] at hpk
        have HPK := Lib.hid hpk
        clear hpk hpe
        go_wp2_with fail
        refine HPK.out.mono ?_
        rintro e w4 ⟨v, rfl, ho, hb4⟩
        obtain ⟨g6, c6, rfl, hbs4, hcx, -⟩ := ho.formN HBL.out (by omega)
        have HBS4 := Lib.hid hbs4
        have B4 := Lib.hid (below_on BW.out hb4)
        have HD4 := Lib.hid (HD.out.below hb4)
        have HO4 := Lib.hid (off_new HD.out ho.fresh (l := d.b))
        have HZN4 : Hid (N ≤ w4.heap.size) := Lib.hid (Nat.le_trans HZN.out hb4.size)
        clear ho hb4 hbs4 HPK HD
        -- armed, and power again
        have HAR := Lib.hid (darm_any HD4.out after none [] 0 (Bs.nil_ _ _) (Nat.le_refl _) (by simp) HZN4.out)
        obtain ⟨da, Hda⟩ : ∃ da, Hid (darmOf d after [] = da) := ⟨_, rfl⟩
        have hda : da.b = d.b ∧ da.worn = d.worn ∧ da.steps = d.steps := by rw [← Hda.out]; unfold darmOf; split <;> exact ⟨rfl, rfl, rfl⟩
        have HDA := Lib.hid hda
        rw [Hda.out] at HAR
        clear hda
        go_wp2_with fail
        refine HAR.out.mono ?_
        rintro e w5 ⟨rfl, hf, ho⟩
        have HD5 := Lib.hid hf
        have ho' := ho.toF (g := p.g) (gB := p.gB) (gW := p.gW) (fun k hk => .inl hk)
        have B5 := Lib.hid (below_fl B4.out ho' G2.out.1 G2.out.2.1 G2.out.2.2)
        have HBS5 : Hid (Bs w5 (some ⟨g6, 0, none⟩) d.b) := Lib.hid (HBS4.out.offs HO4.out ho')
        clear hf ho ho' HAR HD4 HBS4
        go_wp2_with fail
        refine (dboot_any HD5.out).mono ?_
        rintro e w6 ⟨rfl, hf, ho⟩
        have HD6 : Hid (DevFl w6 p.g p.gB p.gW p.cB p.cW N ⟨d.b, d.worn, d.steps, false, false, 0, []⟩) := Lib.hid (by
          obtain ⟨e1, e2, e3⟩ := HDA.out
          rw [e1, e2, e3] at hf
          rw [← Hp.out] at hf ⊢
          exact hf)
        have ho' := ho.toF (g := p.g) (gB := p.gB) (gW := p.gW) (fun k hk => .inl hk)
        have B6 := Lib.hid (below_fl B5.out ho' G2.out.1 G2.out.2.1 G2.out.2.2)
        have HBS6 : Hid (Bs w6 (some ⟨g6, 0, none⟩) d.b) := Lib.hid (HBS5.out.offs HO4.out ho')
        clear hf ho ho' HD5 HBS5
        obtain ⟨d6, Hd6⟩ : ∃ d6, Hid ((⟨d.b, d.worn, d.steps, false, false, 0, []⟩ : Dl) = d6) := ⟨_, rfl⟩
        have hd6b : d6.b = d.b := by rw [← Hd6.out]
        rw [Hd6.out] at HD6 HCA
        have Hd6b := Lib.hid hd6b
        clear hd6b
        -- dark no more, and all as it was
        have HOFF : Hid (∀ W, Below w6.heap.size w6 W → Calls Try.prog 12 #[.pointer (some ⟨p.g, 0, none⟩)] W fun e w' => e = .returned (.bool false) ∧ W = w') := Lib.hid (fun W hW => by
          have := doff_any (HD6.out.below hW)
          rwa [HCA.out.off] at this)
        have HPK : Hid (∀ W, Below w6.heap.size w6 W → Calls Try.prog 17 #[.pointer (some ⟨p.g, 0, none⟩), .int .i64 0, .int .i64 2048] W (RetOb 5 W d.b)) := Lib.hid (fun W hW => by
          have hpk := dpeek_any (HD6.out.below hW) 0 2048 (by omega) (by omega) (by omega) (by omega) (by have := HBL.out; rw [Hd6b.out]; omega)
          have hpe : peekOf d6 0 2048 = d.b := by
            unfold peekOf
            rw [Hd6b.out, if_pos (by have := HBL.out; omega)]
            have e : Int.toNat 2048 = d.b.length := by rw [HBL.out]; rfl
            rw [e]
            exact cut_self _
          rwa [hpe] at hpk)
        obtain ⟨s, Hs⟩ : ∃ s, Hid (strB d.b = s) := ⟨_, rfl⟩
        have m6 : ∀ W, Below w6.heap.size w6 W → (convert 30 9 (.slice (some ⟨g6, 0, none⟩) 2048 c6)).run Try.prog W = .ok (.string s) W := fun W hW => conv_now (HBS6.out.below hW) HBL.out.symm Hs.out
        go_wp2_with fail
        refine wp_region_noPanic ?_
        refine wp_region_held_drew (S := fun W => Below w6.heap.size w6 W) (by kernel_rfl) (by exact (Below.refl _ _).drew) (fun hS => ?_)
        refine' take_at 0 rfl (by kernel_rfl) (by kernel_rfl) (by kernel_rfl) (fun _ _ _ h => h) (by rfl) hS ?_ ?_ ?_
        rotate_left 2
        · intro W hSW; go_simp; try with_reducible rfl
        · simp only [List.set_cons_succ, List.set_cons_zero]; rfl
        refine call_at 1 rfl (by kernel_rfl) (by rfl) (fun K hK => ?_)
        go_simp
        refine (HOFF.out _ hS).mono ?_
        rintro e w7 ⟨rfl, rfl⟩
        refine hK.out _ _ (by exact hS) (fun hS => ?_)
        clear hK K
        refine' take_at 2 rfl (by kernel_rfl) (by kernel_rfl) (by kernel_rfl) (fun _ _ _ h => h) (by rfl) hS ?_ ?_ ?_
        rotate_left 2
        · intro W hSW; go_simp; try with_reducible rfl
        · simp only [List.set_cons_succ, List.set_cons_zero]; rfl
        refine' take_at 3 rfl (by kernel_rfl) (by kernel_rfl) (by kernel_rfl) (fun _ _ _ h => h) (by rfl) hS ?_ ?_ ?_
        rotate_left 2
        · intro W hSW; go_simp; try with_reducible rfl
        · simp only [List.set_cons_succ, List.set_cons_zero]; rfl
        refine' take_at 6 rfl (by kernel_rfl) (by kernel_rfl) (by kernel_rfl) (fun _ _ _ h => h) (by rfl) hS ?_ ?_ ?_
        rotate_left 2
        · intro W hSW; go_simp; try with_reducible rfl
        · simp only [List.set_cons_succ, List.set_cons_zero]; rfl
        refine' take_at 7 rfl (by kernel_rfl) (by kernel_rfl) (by kernel_rfl) (fun _ _ _ h => h) (by rfl) hS ?_ ?_ ?_
        rotate_left 2
        · intro W hSW; go_simp; try with_reducible rfl
        · simp only [List.set_cons_succ, List.set_cons_zero]; rfl
        refine call_at 4 rfl (by kernel_rfl) (by rfl) (fun K hK => ?_)
        go_simp
        refine (HPK.out _ hS).mono ?_
        rintro e w7 ⟨v7, rfl, ho7, hb7⟩
        obtain ⟨A7, c7, rfl, hbs7, -⟩ := ho7.form
        have kS7 := hS.trans (hb7.mono hS.size)
        have m7 : ∀ W, Below w7.heap.size w7 W → (convert 30 9 (.slice A7 d.b.length c7)).run Try.prog W = .ok (.string s) W := fun W hW => conv_now (hbs7.below hW) rfl Hs.out
        have HX7 := Lib.hid hbs7
        clear hS ho7 hbs7
        refine hK.out _ _ (by exact kS7) (fun hS => ?_)
        clear hK K
        refine held_mono (S2 := fun W => Below w7.heap.size w7 W) (fun W hW => kS7.trans (hW.mono kS7.size)) _ _ _ _ ?_
        replace hS : Below w7.heap.size w7 w7 := Below.refl _ _
        refine' take_at 5 rfl (by kernel_rfl) (by kernel_rfl) (by kernel_rfl) (fun _ _ _ h => h) (by rfl) hS ?_ ?_ ?_
        rotate_left 2
        · intro W hSW; go_simp; try with_reducible rfl
        · simp only [List.set_cons_succ, List.set_cons_zero]; rfl
        refine' take_at 8 rfl (by kernel_rfl) (by kernel_rfl) (by kernel_rfl) (fun _ _ _ h => h) (by rfl) hS ?_ ?_ ?_
        rotate_left 2
        · intro W hSW; go_simp; try with_reducible rfl
        · simp only [List.set_cons_succ, List.set_cons_zero]; rfl
        refine' take_at 9 rfl (by kernel_rfl) (by kernel_rfl) (by kernel_rfl) (fun _ _ _ h => h) (by rfl) hS ?_ ?_ ?_
        rotate_left 2
        · intro W hSW; go_simp; try with_reducible rfl
        · simp only [List.set_cons_succ, List.set_cons_zero]; rfl
        refine wpAnyH_done (by kernel_rfl) ?_ _
        refine NoPanic.normal ?_
        have HD7 := Lib.hid (HD6.out.below (kS7.trans (hS.mono kS7.size)))
        have B7 := Lib.hid (below_on B6.out (kS7.trans (hS.mono kS7.size)))
        clear m6 m7 hS kS7 hb7
        go_wp2_with fail
        -- twenty times erased
        go_loopw [10] (fun i wr => ∃ k : Nat, k ≤ 20 ∧ i = .int .i64 k ∧ Hid (∃ dk, DevFl wr p.g p.gB p.gW p.cB p.cW N dk ∧ Calm dk k) ∧ Hid (Below w.heap.size w wr)) (fun i _ => 20 - (intOf i).toNat)
        case atStart => exact ⟨0, by omega, rfl, Lib.hid ⟨d6, HD7.out, HCA.out⟩, B7⟩
        case round =>
          obtain ⟨i, hi, rfl, HC, HBw⟩ := hrel
          by_cases hlt : i < 20
          · obtain ⟨dk, hdk, hck⟩ := HC.out
            obtain ⟨dn, hdn, hcn⟩ := calm_erase hck (by omega)
            obtain ⟨m, Hm⟩ : ∃ m : Nat, Hid (m = i % 2) := ⟨_, rfl⟩
            have hmod : (i : Int) % 2 = (m : Int) := by rw [Hm.out]; omega
            have her := derase_any hdk hck.ok (m : Int)
            rw [Hm.out, hdn] at her
            rw [← Hm.out] at her
            have HER := Lib.hid her
            have HCN := Lib.hid hcn
            clear hdk hck hdn hcn her
            go_wp2_with (first
              | (go_at_call 20; refine HER.out.mono ?_; rintro e w8 ⟨rfl, hf8, ho8⟩; have HF8 : Hid (DevFl w8 p.g p.gB p.gW p.cB p.cW N dn) := Lib.hid hf8; have B8 := Lib.hid (below_fl HBw.out ho8 G2.out.1 G2.out.2.1 G2.out.2.2); clear hf8 ho8)
              | (go_at_call 21; refine (num2_any _ _).mono ?_; rintro e w9 ⟨rfl, rfl⟩))
            go_roundw
            case rel => exact ⟨i + 1, by omega, by go_num, Lib.hid ⟨dn, HF8.out, HCN.out⟩, B8⟩
            case measure => simp [intOf]; omega
          · obtain rfl : i = 20 := by omega
            obtain ⟨dk, hdk, hck⟩ := HC.out
            have hbk : dk.b.length = 2048 := by rw [hck.ok.len, hck.wl]
            have hall := calm_blank hck (by omega)
            have hpk := dpeek_any hdk 0 2048 (by omega) (by omega) (by omega) (by omega) (by omega)
            have hpe : peekOf dk 0 2048 = dk.b := by
              unfold peekOf
              rw [if_pos (by omega)]
              have e : Int.toNat 2048 = dk.b.length := by rw [hbk]; rfl
              rw [e]
              exact cut_self _
            rw [hpe] at hpk
            have HPK2 := Lib.hid hpk
            have HBK := Lib.hid hbk
            have HALL := Lib.hid hall
            clear hdk hck hbk hall hpk hpe
            go_wp2_with fail
            refine HPK2.out.mono ?_
            rintro e w8 ⟨v8, rfl, ho8, hb8⟩
            obtain ⟨g8, c8, rfl, hbs8, -, -⟩ := ho8.formN HBK.out (by omega)
            have HIB : Hid (Calls Try.prog 22 #[.slice (some ⟨g8, 0, none⟩) 2048 c8] w8 fun e w' => e = .returned (.bool true) ∧ w8 = w') := Lib.hid (by
              have := isBlank_any (some ⟨g8, 0, none⟩) dk.b c8 w8 hbs8 (by rw [HBK.out]; omega)
              rw [HBK.out, HALL.out] at this
              exact this)
            have B8 := Lib.hid (below_on HBw.out hb8)
            clear ho8 hb8 hbs8
            go_wp2_with fail
            refine HIB.out.mono ?_
            rintro e w9 ⟨rfl, rfl⟩
            go_wp2_with fail
            go_ret
            exact ⟨rfl, B8.out⟩
  · have HL := Lib.hid hL
    by_cases hf : fewB L = true
    · have hna : ¬ after ≤ 1000 := fun h => hask ⟨hf, h⟩
      have HFEW : Hid (∀ W, Below w.heap.size w W → Calls Try.prog 8 #[.slice A0 L.length c0] W fun e w' => e = .returned (.bool true) ∧ W = w') := Lib.hid (fun W hW => by rw [← hf]; exact few_any W A0 L c0 (hL.below hW) hLm)
      clear hask hf hL
      go_enter Try.func6, Try.ntmps6
      go_wp2_with fail
      refine (alive2_any _).mono ?_
      rintro e w1 ⟨rfl, hb1⟩
      have B1 := Lib.hid hb1
      clear hb1
      go_wp2_with fail
      refine (HFEW.out _ B1.out).mono ?_
      rintro e w' ⟨rfl, rfl⟩
      go_wp2_with fail
      go_ret
      exact ⟨rfl, B1.out⟩
    · have hff : fewB L = false := by simpa using hf
      have HFEW : Hid (∀ W, Below w.heap.size w W → Calls Try.prog 8 #[.slice A0 L.length c0] W fun e w' => e = .returned (.bool false) ∧ W = w') := Lib.hid (fun W hW => by rw [← hff]; exact few_any W A0 L c0 (hL.below hW) hLm)
      clear hask hf hL hff
      go_enter Try.func6, Try.ntmps6
      go_wp2_with fail
      refine (alive2_any _).mono ?_
      rintro e w1 ⟨rfl, hb1⟩
      have B1 := Lib.hid hb1
      clear hb1
      go_wp2_with fail
      refine (HFEW.out _ B1.out).mono ?_
      rintro e w' ⟨rfl, rfl⟩
      go_wp2_with fail
      go_ret
      exact ⟨rfl, B1.out⟩
end Go.Proofs.Ytlnpfndjdilfhaa
