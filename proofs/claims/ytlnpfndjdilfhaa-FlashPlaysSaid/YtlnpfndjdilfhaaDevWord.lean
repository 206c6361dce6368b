/- The contract of the program's programWord. -/
import Derived.Test.YtlnpfndjdilfhaaDevErase
import Derived.Test.YtlnpfndjdilfhaaNorTorn
import Derived.Test.YtlnpfndjdilfhaaNorProgram
namespace Go.Proofs.Ytlnpfndjdilfhaa
open Go.RowKit
set_option linter.unusedVariables false

/-- one word -/
def dwordOf (d : Dl) (a : Nat) (m : List UInt8) : Int × Dl :=
  match dstepOf d with
  | (some p, f) => (5, dwithB f (laid f.b a (tornB (cut f.b a 8) m p)))
  | (none, f) => (0, dwithB f (laid f.b a m))

set_option maxRecDepth 100000 in
set_option maxHeartbeats 1600000 in
theorem dword_any {g gB gW cB cW N : Nat} {d : Dl} {w : World} (h : DevFl w g gB gW cB cW N d) (ok : DlOk d) (a : Nat) (A : Option Addr) (m : List UInt8) (c : Nat) (hm : Bs w A m) (hm8 : Hid (m.length = 8)) (ha : a + 8 ≤ d.b.length) (hcan : Hid (canB (cut d.b a 8) m = true)) :
    Calls Try.prog 44 #[.pointer (some ⟨g, 0, none⟩), .int .i64 (a : Int), .slice A 8 c] w (DErasePost w g gB gW cB cW N (dwordOf d a m)) := by
  obtain ⟨AP, cP, hg, -, -⟩ := h.cells
  have c0 : w.cell? ⟨g, 0, none⟩ = some (.slice (some ⟨gB, 0, none⟩) d.b.length cB) := by rw [cell_of_row _ _ _ _ _ _ hg]; rfl
  have hlb : d.b.length ≤ 67108864 := by have := ok.len; have := ok.few; omega
  have hcap : d.b.length ≤ cB := h.bytes.cap
  have hp1 : d.pick.length ≤ 1024 := ok.p
  have k1 := ok.s0
  have k2 := ok.s1
  have k3 := ok.l0
  have k4 := ok.l1
  unfold dwordOf
  obtain ⟨t, f2, Hst⟩ : ∃ t f2, Hid (dstepOf d = (t, f2)) := ⟨_, _, rfl⟩
  have hf2 := dstepOf_b d
  rw [Hst.out] at hf2 ⊢
  obtain ⟨e1, -, e3⟩ := hf2
  have hb2 : Hid (f2.b = d.b) := e1
  have ha2 : a + 8 ≤ f2.b.length := by rw [hb2.out]; exact ha
  have hpl2 : (t.getD []).length ≤ 1024 := by
    rcases e3 with e3 | e3
    · simp at e3; subst e3; simp
    · simp at e3; subst e3; exact hp1
  have Hcan : Hid (canB (cut f2.b a 8) m = true) := Lib.hid (by rw [hb2.out]; exact hcan.out)
  have hcl : Hid ((cut f2.b a 8).length = 8) := Lib.hid (cut_len (by omega))
  obtain ⟨o, ho, zs0⟩ := slice_in gB a 8 cB (by omega)
  have zs : ∀ (u : World), (Instr.slice 30 (.slice (some ⟨gB, 0, none⟩) d.b.length cB) (some (.int .i64 (a : Int))) (some (.int .i64 ((a : Int) + 8))) none).run Try.prog u = .ok (.slice (some ⟨gB, o, none⟩) 8 (cB - a)) u := fun u => zs0 d.b.length u
  have Hho := Lib.hid ho
  have HH := Lib.hid h
  have HM := Lib.hid hm
  clear hg h e1 e3 zs0 ho hm ok
  cases t with
  | none =>
    go_enter Try.func44, Try.ntmps44
    go_wp2_with (go_at_call 41; refine (dstep_is HH.out Hst k1 k2 k3 k4).mono ?_; rintro e w1 ⟨A1, c11, rfl, -, hr, ho⟩; have O2 : Hid (Only (fun k => k = g) w w1) := Lib.hid ho; have HR := Lib.hid hr; have HM2 := Lib.hid (bs_off_struct HH.out HM.out ho); clear ho hr)
    have HPf : Hid (∀ W k1, W = w1 → Calls Try.prog 52 #[.slice (some ⟨gB, o, none⟩) 8 k1, .slice A 8 c] W (RetIn 5 W m)) := Lib.hid (fun W k1 hW => by
      subst hW
      exact program_r (Below.refl _ _) (by show (if canB (cut f2.b a 8) m = true then m else []) = m; rw [if_pos Hcan.out]) (HR.out.bytes.bs.cutAt ha2 Hho.out) HM2.out hcl.out.symm hm8.out.symm (by omega) (by omega))
    go_wp2_with (first
      | (go_at_call 52; refine (HPf.out _ _ rfl).mono ?_; rintro e w2 ⟨A2, c2, m2, rfl, hm2, hbs2, kb2⟩; have HB2 := Lib.hid hbs2; have KB := Lib.hid kb2; obtain rfl : m2 = 8 := hm2.trans hm8.out; clear hm2 hbs2 kb2)
      | (with_reducible refine wpList_copy_bs rfl (.tmp 30) (.tmp 33) 30 30 rfl 0 5 Try.underlying30 info5s gB f2.b.length cB f2.b (HR.out.below KB.out).bytes (some ⟨gB, o, none⟩) a 8 (cB - a) rfl A2 m 8 c2 8 rfl HB2.out hm8.out.symm rfl (fun hk => by rcases Hho.out with rfl | h0 <;> first | rfl | omega) ha2 ?_))
    intro w3 ho3 hon3
    have HP : Hid (DErasePost w g gB gW cB cW N (0, dwithB f2 (laid f2.b a m)) (.returned (.int .i64 0)) w3) := Lib.hid (by
      rw [List.take_of_length_le (by rw [hm8.out]; omega)] at ho3
      exact ⟨rfl, (HR.out.below KB.out).withB hon3 (laid_len _ _ _) ho3, ((O2.out.toF (fun k hk => .inl hk)).trans (Only.of_below KB.out)).trans (hon3.toF (fun k hk => .inr (.inl hk)))⟩)
    clear ho3 hon3
    go_wp2
    go_ret
    exact HP.out
  | some pk =>
    obtain ⟨hv, HV⟩ : ∃ l, Hid (tornB (cut f2.b a 8) m pk = l) := ⟨_, rfl⟩
    have hhl : Hid (hv.length = 8) := Lib.hid (by rw [← HV.out, tornB_len, hm8.out])
    go_enter Try.func44, Try.ntmps44
    go_wp2_with (go_at_call 41; refine (dstep_is HH.out Hst k1 k2 k3 k4).mono ?_; rintro e w1 ⟨A1, c11, rfl, hbp, hr, ho⟩; have O2 : Hid (Only (fun k => k = g) w w1) := Lib.hid ho; have HR := Lib.hid hr; have HBP := Lib.hid hbp; have HM2 := Lib.hid (bs_off_struct HH.out HM.out ho); clear ho hr hbp)
    have HTf : Hid (∀ W k1, W = w1 → Calls Try.prog 51 #[.slice (some ⟨gB, o, none⟩) 8 k1, .slice A 8 c, .slice A1 pk.length c11] W (RetIn 5 W hv)) := Lib.hid (fun W k1 hW => by
      subst hW
      exact torn_r (Below.refl _ _) (by show (if canB (cut f2.b a 8) m = true then tornB (cut f2.b a 8) m pk else []) = hv; rw [if_pos Hcan.out]; exact HV.out) (HR.out.bytes.bs.cutAt ha2 Hho.out) HM2.out HBP.out hcl.out.symm hm8.out.symm rfl (by omega) (by omega) (by simp at hpl2; omega))
    go_wp2_with (first
      | (go_at_call 51; refine (HTf.out _ _ rfl).mono ?_; rintro e w2 ⟨A2, c2, m2, rfl, hm2, hbs2, kb2⟩; have HB2 := Lib.hid hbs2; have KB := Lib.hid kb2; obtain rfl : m2 = 8 := hm2.trans hhl.out; clear hm2 hbs2 kb2)
      | (with_reducible refine wpList_copy_bs rfl (.tmp 24) (.tmp 28) 30 30 rfl 0 5 Try.underlying30 info5s gB f2.b.length cB f2.b (HR.out.below KB.out).bytes (some ⟨gB, o, none⟩) a 8 (cB - a) rfl A2 hv 8 c2 8 rfl HB2.out hhl.out.symm rfl (fun hk => by rcases Hho.out with rfl | h0 <;> first | rfl | omega) ha2 ?_))
    intro w3 ho3 hon3
    have HP : Hid (DErasePost w g gB gW cB cW N (5, dwithB f2 (laid f2.b a hv)) (.returned (.int .i64 5)) w3) := Lib.hid (by
      rw [List.take_of_length_le (by rw [hhl.out]; omega)] at ho3
      exact ⟨rfl, (HR.out.below KB.out).withB hon3 (laid_len _ _ _) ho3, ((O2.out.toF (fun k hk => .inl hk)).trans (Only.of_below KB.out)).trans (hon3.toF (fun k hk => .inr (.inl hk)))⟩)
    clear ho3 hon3
    go_wp2
    go_ret
    rw [HV.out]
    exact HP.out
end Go.Proofs.Ytlnpfndjdilfhaa
