/- The contract of the program's Erase. -/
import Derived.Test.YtlnpfndjdilfhaaDevArm
import Derived.Test.YtlnpfndjdilfhaaNorHalf
import Derived.Test.YtlnpfndjdilfhaaNorBlank
import Derived.Test.YtlnpfndjdilfhaaRefErase
namespace Go.Proofs.Ytlnpfndjdilfhaa
open Go.RowKit
set_option linter.unusedVariables false

def dwithW (d : Dl) (l : List Int) : Dl := ⟨d.b, l, d.steps, d.off, d.armed, d.after, d.pick⟩

/-- only the row of counts has turned -/
theorem DevFl.withW {w w' : World} {g gB gW cB cW N : Nat} {d : Dl} (h : DevFl w g gB gW cB cW N d) (ho : Only (fun k => k = gW) w w') {l : List Int} (hlen : l.length = d.worn.length) (hb : Wb w' gW cW l) :
    DevFl w' g gB gW cB cW N (dwithW d l) := by
  obtain ⟨n1, n2, n3⟩ := h.ne
  obtain ⟨AP, cP, hg, hbp, hap⟩ := h.cells
  refine ⟨⟨AP, cP, ?_, hbp.only ho (fun k hk => (hap k hk).2.2.1), hap⟩, h.bytes.only ho (by rintro k ⟨a, e, rfl⟩; injection e with e; subst e; exact n3), hb⟩
  rw [ho.block g (Array.getElem?_eq_some_iff.1 hg).1 n2]
  have e : (dwithW d l).worn.length = d.worn.length := hlen
  rw [e]
  exact hg

def deraseIn (d : Dl) (x : Nat) : Int × Dl :=
  match dstepOf (dwithW d (d.worn.set x (d.worn.getD x 0 + 1))) with
  | (some p, f) => (5, dwithB f (laid f.b (1024 * x) (halfB (cut f.b (1024 * x) 1024) p)))
  | (none, f) => (0, dwithB f (laid f.b (1024 * x) (List.replicate 1024 255)))
def deraseOf (d : Dl) (s : Int) : Int × Dl :=
  if d.off then (5, d) else if 0 ≤ s ∧ s < d.worn.length then deraseIn d s.toNat else (2, d)

/-- what is asked of a flash's numbers -/
structure DlOk (d : Dl) : Prop where
  len : d.b.length = 1024 * d.worn.length
  few : d.worn.length ≤ 65536
  worn : ∀ x ∈ d.worn, 0 ≤ x ∧ x ≤ 4611686018427387904
  s0 : 0 ≤ d.steps
  s1 : d.steps ≤ 4611686018427387904
  l0 : 0 ≤ d.after
  l1 : d.after ≤ 9223372036854775807
  p : d.pick.length ≤ 1024

def DErasePost (w : World) (g gB gW cB cW N : Nat) (r : Int × Dl) (e : Ending) (w' : World) : Prop :=
  e = .returned (.int .i64 r.1) ∧ DevFl w' g gB gW cB cW N r.2 ∧ Only (FlF g gB gW) w w'

theorem dstepOf_b (f : Dl) : (dstepOf f).2.b = f.b ∧ (dstepOf f).2.worn = f.worn ∧ ((dstepOf f).1 = none ∨ (dstepOf f).1 = some f.pick) := by
  unfold dstepOf
  split
  · split
    · exact ⟨rfl, rfl, .inl rfl⟩
    · exact ⟨rfl, rfl, .inr rfl⟩
  · exact ⟨rfl, rfl, .inl rfl⟩

def DStepIs (w : World) (g gB gW cB cW N : Nat) (t : Option (List UInt8)) (f : Dl) (e : Ending) (w' : World) : Prop :=
  ∃ A c, e = .returned (.tuple #[.slice A (t.getD []).length c, .bool t.isSome]) ∧ Bs w' A (t.getD []) ∧ DevFl w' g gB gW cB cW N f ∧ Only (fun k => k = g) w w'
theorem dstep_is {g gB gW cB cW N : Nat} {d f : Dl} {t : Option (List UInt8)} {w : World} (h : DevFl w g gB gW cB cW N d) (H : Hid (dstepOf d = (t, f))) (hs1 : 0 ≤ d.steps) (hs2 : d.steps ≤ 4611686018427387904) (hl1 : 0 ≤ d.after) (hl2 : d.after ≤ 9223372036854775807) :
    Calls Try.prog 41 #[.pointer (some ⟨g, 0, none⟩)] w (DStepIs w g gB gW cB cW N t f) :=
  (dstep_any h hs1 hs2 hl1 hl2).mono fun e w' ⟨⟨A, c, he, hb, _⟩, hr, ho⟩ => by rw [H.out] at he hr hb; exact ⟨A, c, he, hb, hr, ho⟩

set_option maxRecDepth 100000 in
set_option maxHeartbeats 1600000 in
theorem derase_in {g gB gW cB cW N : Nat} {d : Dl} {w : World} (h : DevFl w g gB gW cB cW N d) (ok : DlOk d) (x : Nat) (hx : x < d.worn.length) (hd : d.off = false) :
    Calls Try.prog 20 #[.pointer (some ⟨g, 0, none⟩), .int .i64 (x : Int)] w (DErasePost w g gB gW cB cW N (deraseIn d x)) := by
  obtain ⟨AP, cP, hg, -, -⟩ := h.cells
  obtain ⟨n1, n2, n3⟩ := h.ne
  have hpw : Calls Try.prog 40 #[.pointer (some ⟨g, 0, none⟩)] w fun e w' => e = .returned (.bool true) ∧ w = w' := by
    have := dpowered_any h
    rwa [hd] at this
  have hha := dhas_is (s := (x : Int)) (b := true) h (Lib.hid (decide_eq_true ⟨by omega, by omega⟩))
  have c0 : w.cell? ⟨g, 0, none⟩ = some (.slice (some ⟨gB, 0, none⟩) d.b.length cB) := by rw [cell_of_row _ _ _ _ _ _ hg]; rfl
  have c1 : w.cell? ⟨g, 1, none⟩ = some (.slice (some ⟨gW, 0, none⟩) d.worn.length cW) := by rw [cell_of_row _ _ _ _ _ _ hg]; rfl
  have cx := h.counts.at_ hx
  have fx := h.counts.frozen x
  have hwx : 0 ≤ d.worn.getD x 0 ∧ d.worn.getD x 0 ≤ 4611686018427387904 := by
    have := ok.worn d.worn[x] (List.getElem_mem hx)
    simpa [List.getD, List.getElem?_eq_getElem hx] using this
  unfold deraseIn
  obtain ⟨v, Hv⟩ : ∃ v, Hid (d.worn.getD x 0 = v) := ⟨_, rfl⟩
  rw [Hv.out] at cx hwx ⊢
  have hst := h.counts.set_ x (v + 1)
  have o1 : Only (fun k => k = gW) w (w.setCell ⟨gW, x, none⟩ (.int .i64 (v + 1))) := Only.setCell (p := ⟨gW, x, none⟩) (Only.refl (fun k => k = gW) w) (.inl rfl) _
  obtain ⟨d1, Hd1⟩ : ∃ f, Hid (dwithW d (d.worn.set x (v + 1)) = f) := ⟨_, rfl⟩
  rw [Hd1.out]
  have h1 : Hid (DevFl (w.setCell ⟨gW, x, none⟩ (.int .i64 (v + 1))) g gB gW cB cW N d1) := Lib.hid (by
    have := h.withW o1 (l := d.worn.set x (v + 1)) (by simp) hst
    rw [Hd1.out] at this
    exact this)
  have O1 := Lib.hid o1
  have hfew := ok.few
  have hlen := ok.len
  obtain ⟨y, hy⟩ : ∃ y : Nat, (x : Int) * 1024 = (y : Int) := ⟨x * 1024, by omega⟩
  have hyb : y + 1024 ≤ d.b.length := by omega
  have hcap : d.b.length ≤ cB := h.bytes.cap
  have hyx : 1024 * x = y := by omega
  rw [hyx]
  have k0 : 0 ≤ d1.steps ∧ d1.steps ≤ 4611686018427387904 ∧ 0 ≤ d1.after ∧ d1.after ≤ 9223372036854775807 := by
    rw [← Hd1.out]; exact ⟨ok.s0, ok.s1, ok.l0, ok.l1⟩
  obtain ⟨k1, k2, k3, k4⟩ := k0
  have hp1 : d.pick.length ≤ 1024 := ok.p
  have hfb : d1.b = d.b ∧ d1.pick = d.pick := by rw [← Hd1.out]; exact ⟨rfl, rfl⟩
  obtain ⟨t, f2, Hst⟩ : ∃ t f2, Hid (dstepOf d1 = (t, f2)) := ⟨_, _, rfl⟩
  have hf2 := dstepOf_b d1
  rw [Hst.out] at hf2 ⊢
  obtain ⟨e1, -, e3⟩ := hf2
  have hb2 : Hid (f2.b = d.b) := e1.trans hfb.1
  have hyb2 : y + 1024 ≤ f2.b.length := by rw [hb2.out]; exact hyb
  have hlb2 : f2.b.length ≤ 2147483648 := by rw [hb2.out]; omega
  have hpl2 : (t.getD []).length ≤ 1024 := by
    rcases e3 with e3 | e3
    · simp at e3; subst e3; simp
    · simp at e3; subst e3; rw [Option.getD_some, hfb.2]; exact hp1
  obtain ⟨bl, Hbl⟩ : ∃ l, Hid (List.replicate 1024 (255 : UInt8) = l) := ⟨_, rfl⟩
  rw [Hbl.out]
  have HBL : Hid (∀ W : World, Calls Try.prog 27 #[.int .i64 1024] W (RetIn 5 W bl)) := Lib.hid (fun W => by
    rw [← Hbl.out]
    exact blank_in (Below.refl _ _) (n := 1024) (k := 1024) rfl (by omega))
  have Hbln : Hid (bl.length = 1024) := Lib.hid (by rw [← Hbl.out, List.length_replicate])
  have hcl : Hid ((cut f2.b y 1024).length = 1024) := Lib.hid (cut_len (by omega))
  obtain ⟨o, ho, zs0⟩ := slice_in gB y 1024 cB (by omega)
  have zs : ∀ (u : World), (Instr.slice 30 (.slice (some ⟨gB, 0, none⟩) d.b.length cB) (some (.int .i64 ((x : Int) * 1024))) (some (.int .i64 (((x : Int) + 1) * 1024))) none).run Try.prog u = .ok (.slice (some ⟨gB, o, none⟩) 1024 (cB - y)) u := fun u => by
    have := zs0 d.b.length u
    have e2 : ((x : Int) + 1) * 1024 = (y : Int) + ((1024 : Nat) : Int) := by omega
    rw [hy, e2]
    exact this
  have Hho := Lib.hid ho
  have Hhy := Lib.hid hy
  have Hn := Lib.hid n3
  have hx1 : (x : Int) * 1024 ≤ 67108864 := by omega
  have hx2 : (x : Int) ≤ 65536 := by omega
  have Hok : Hid (d.b.length = 1024 * d.worn.length) := Lib.hid hlen
  clear hyx hlen ok hst o1 hg h e1 e3 hfb zs0 ho hy
  cases t with
  | none =>
    go_enter Try.func20, Try.ntmps20
    go_wp2_with (first
      | (go_at_call 40; refine hpw.mono ?_; rintro e w' ⟨rfl, rfl⟩)
      | (go_at_call 37; refine hha.mono ?_; rintro e w' ⟨rfl, rfl⟩)
      | (go_at_call 41; refine (dstep_is h1.out Hst k1 k2 k3 k4).mono ?_; rintro e w1 ⟨A1, c11, rfl, -, hr, ho⟩; have O2 : Hid (Only (FlF g gB gW) w w1) := Lib.hid ((O1.out.toF (fun k hk => .inr (.inr hk))).trans (ho.toF (fun k hk => .inl hk))); have HR := Lib.hid hr; clear ho hr))
    go_wp2_with (first
      | (go_at_call 27; refine (HBL.out _).mono ?_; rintro e w2 ⟨A2, c2, m2, rfl, hm2, hbs2, kb2⟩; have HB2 := Lib.hid hbs2; have KB := Lib.hid kb2; obtain rfl : m2 = 1024 := hm2.trans Hbln.out; clear hm2 hbs2 kb2)
      | (with_reducible refine wpList_copy_bs rfl (.tmp 45) (.tmp 46) 30 30 rfl 0 5 Try.underlying30 info5s gB f2.b.length cB f2.b (HR.out.below KB.out).bytes (some ⟨gB, o, none⟩) y 1024 (cB - y) rfl A2 bl 1024 c2 1024 rfl HB2.out Hbln.out.symm rfl (fun hk => by rcases Hho.out with rfl | h0 <;> first | rfl | omega) hyb2 ?_))
    intro w3 ho3 hon3
    have HP : Hid (DErasePost w g gB gW cB cW N (0, dwithB f2 (laid f2.b y bl)) (.returned (.int .i64 0)) w3) := Lib.hid (by
      rw [List.take_of_length_le (by rw [Hbln.out]; omega)] at ho3
      exact ⟨rfl, (HR.out.below KB.out).withB hon3 (laid_len _ _ _) ho3, (O2.out.trans (Only.of_below KB.out)).trans (hon3.toF (fun k hk => .inr (.inl hk)))⟩)
    clear ho3 hon3
    go_wp2
    go_ret
    exact HP.out
  | some pk =>
    go_enter Try.func20, Try.ntmps20
    go_wp2_with (first
      | (go_at_call 40; refine hpw.mono ?_; rintro e w' ⟨rfl, rfl⟩)
      | (go_at_call 37; refine hha.mono ?_; rintro e w' ⟨rfl, rfl⟩)
      | (go_at_call 41; refine (dstep_is h1.out Hst k1 k2 k3 k4).mono ?_; rintro e w1 ⟨A1, c11, rfl, hbp, hr, ho⟩; have O2 : Hid (Only (FlF g gB gW) w w1) := Lib.hid ((O1.out.toF (fun k hk => .inr (.inr hk))).trans (ho.toF (fun k hk => .inl hk))); have HR := Lib.hid hr; have HBP := Lib.hid hbp; clear ho hr hbp))
    have hhl : Hid ((halfB (cut f2.b y 1024) pk).length = 1024) := Lib.hid (by rw [halfB_len, hcl.out])
    obtain ⟨hv, HV⟩ : ∃ l, Hid (halfB (cut f2.b y 1024) pk = l) := ⟨_, rfl⟩
    rw [HV.out] at hhl
    have HHf : Hid (∀ W c, W = w1 → Calls Try.prog 42 #[.slice (some ⟨gB, o, none⟩) 1024 c, .slice A1 pk.length c11] W (RetIn 5 W hv)) := Lib.hid (fun W c hW => by
      subst hW
      rw [← HV.out]
      exact half_in (Below.refl _ _) (HR.out.bytes.bs.cutAt hyb2 Hho.out) HBP.out hcl.out.symm rfl (by omega) (by simp at hpl2; omega))
    go_wp2_with (first
      | (go_at_call 42; refine (HHf.out _ _ rfl).mono ?_; rintro e w2 ⟨A2, c2, m2, rfl, hm2, hbs2, kb2⟩; have HB2 := Lib.hid hbs2; have KB := Lib.hid kb2; obtain rfl : m2 = 1024 := hm2.trans hhl.out; clear hm2 hbs2 kb2)
      | (with_reducible refine wpList_copy_bs rfl (.tmp 40) (.tmp 43) 30 30 rfl 0 5 Try.underlying30 info5s gB f2.b.length cB f2.b (HR.out.below KB.out).bytes (some ⟨gB, o, none⟩) y 1024 (cB - y) rfl A2 hv 1024 c2 1024 rfl HB2.out hhl.out.symm rfl (fun hk => by rcases Hho.out with rfl | h0 <;> first | rfl | omega) hyb2 ?_))
    intro w3 ho3 hon3
    have HP : Hid (DErasePost w g gB gW cB cW N (5, dwithB f2 (laid f2.b y hv)) (.returned (.int .i64 5)) w3) := Lib.hid (by
      rw [List.take_of_length_le (by rw [hhl.out]; omega)] at ho3
      exact ⟨rfl, (HR.out.below KB.out).withB hon3 (laid_len _ _ _) ho3, (O2.out.trans (Only.of_below KB.out)).trans (hon3.toF (fun k hk => .inr (.inl hk)))⟩)
    clear ho3 hon3
    go_wp2
    go_ret
    rw [HV.out]
    exact HP.out

set_option maxHeartbeats 400000 in
theorem derase_any {g gB gW cB cW N : Nat} {d : Dl} {w : World} (h : DevFl w g gB gW cB cW N d) (ok : DlOk d) (s : Int) :
    Calls Try.prog 20 #[.pointer (some ⟨g, 0, none⟩), .int .i64 s] w (DErasePost w g gB gW cB cW N (deraseOf d s)) := by
  unfold deraseOf
  have hpw := dpowered_any h
  cases hd : d.off with
  | true =>
    rw [hd] at hpw
    rw [if_pos rfl]
    go_enter Try.func20, Try.ntmps20
    go_wp2_with (go_at_call 40; refine hpw.mono ?_; rintro e w' ⟨rfl, rfl⟩)
    go_ret
    exact ⟨rfl, h, Only.refl _ _⟩
  | false =>
    rw [if_neg (by simp)]
    by_cases hin : 0 ≤ s ∧ s < d.worn.length
    · rw [if_pos hin]
      obtain ⟨x, rfl⟩ := Int.eq_ofNat_of_zero_le hin.1
      rw [Int.toNat_natCast]
      exact derase_in h ok x (by omega) hd
    · rw [if_neg hin]
      have hha := dhas_is (s := s) (b := false) h (Lib.hid (decide_eq_false hin))
      rw [hd] at hpw
      clear hin hd
      go_enter Try.func20, Try.ntmps20
      go_wp2_with (first
        | (go_at_call 40; refine hpw.mono ?_; rintro e w' ⟨rfl, rfl⟩)
        | (go_at_call 37; refine hha.mono ?_; rintro e w' ⟨rfl, rfl⟩))
      go_ret
      exact ⟨rfl, h, Only.refl _ _⟩
end Go.Proofs.Ytlnpfndjdilfhaa
