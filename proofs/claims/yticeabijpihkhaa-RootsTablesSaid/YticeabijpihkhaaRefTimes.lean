/- The contract of the reference's times. -/
import Derived.Test.YticeabijpihkhaaRefDigits
namespace Go.Proofs.Yticeabijpihkhaa
open Go.RowKit
set_option linter.unusedVariables false
set_option maxRecDepth 100000

theorem and16 (t : Nat) (h : t < 18446744073709551616) : bits .and .u64 (t : Int) 65535 = ((t % 65536 : Nat) : Int) := by
  have := u64_and_nat t 65535 h (by omega)
  rw [show t &&& 65535 = t % 65536 from Nat.and_two_pow_sub_one_eq_mod t 16] at this
  exact this

def TimesPost (w : World) (n v : Nat) (e : Ending) (w' : World) : Prop :=
  ∃ A c o, e = .returned (.slice A n c) ∧ Us w' A o ∧ o.length = n ∧ Dig o ∧ vl o = v ∧ Below w.heap.size w w'

set_option maxHeartbeats 1600000 in
theorem rtimes_any (A B : Option Addr) (a b : List Nat) (ca cb : Nat) (w : World) (h : Us w A a) (h' : Us w B b) (hla : a.length ≤ 1000) (hlb : b.length ≤ 1000) (da : Dig a) (db : Dig b) :
    Calls Try.prog 31 #[.slice A a.length ca, .slice B b.length cb] w (TimesPost w (a.length + b.length) (vl a * vl b)) := by
  obtain ⟨n, hn⟩ : ∃ n, a.length + b.length = n := ⟨_, rfl⟩
  have hn2 : n ≤ 2000 := by omega
  have mk : ∀ u : World, (Instr.makeSlice 26 (.int .i64 ((a.length : Int) + (b.length : Int))) (.int .i64 ((a.length : Int) + (b.length : Int)))).run Try.prog u =
      .ok (.slice (some ⟨u.heap.size, 0, none⟩) n n) (u.alloc (.cells (madeCells #[.int .u64 0] n) 22)) := fun u => by
    have := make_full64 n (by omega) u
    rw [← hn] at this ⊢
    rwa [Int.natCast_add] at this
  have HU0 := Lib.hid (own_made64 w n (by omega))
  have HB0 : Hid (Below w.heap.size w (w.alloc (.cells (madeCells #[.int .u64 0] n) 22))) := Lib.hid ((Below.refl _ _).alloc (Nat.le_refl _) _)
  have HR0 : Hid (Row a b (List.replicate n 0) 0) := Lib.hid (by rw [← hn]; exact row_start a b)
  rw [hn]
  have HN := Lib.hid hn
  have HA := Lib.hid h
  have HB := Lib.hid h'
  clear hn h h'
  obtain ⟨g, hg⟩ : ∃ g, w.heap.size = g := ⟨_, rfl⟩
  obtain ⟨V, hV⟩ : ∃ V, vl a * vl b = V := ⟨_, rfl⟩
  rw [hg] at HU0 HB0
  rw [hV]
  have HV := Lib.hid hV
  clear hV
  go_enter Try.func31, Try.ntmps31
  go_wp2_with fail
  go_loopw [6] (fun i wr => ∃ (k : Nat) (o : List Nat), k ≤ a.length ∧ i = .int .i64 (k : Int) ∧ Hid (Row a b o k) ∧ Hid (Uo 22 wr g (.slice (some ⟨g, 0, none⟩) n n) o) ∧ Hid (Below g w wr)) (fun i _ => a.length - (intOf i).toNat)
  case atStart => exact ⟨0, List.replicate n 0, by omega, rfl, HR0, HU0, HB0⟩
  case round =>
    obtain ⟨i, o, hi, rfl, HR, HO, HBe⟩ := hrel
    clear mk HR0 HU0 HB0
    by_cases hia : i < a.length
    · go_wp2_with fail
      go_loopw [7, 8] (fun cv kv wr => ∃ (k c : Nat) (o : List Nat), k ≤ b.length ∧ kv = .int .i64 (k : Int) ∧ cv = .int .u64 (c : Int) ∧ Hid (Mid a b o i k c) ∧ Hid (Uo 22 wr g (.slice (some ⟨g, 0, none⟩) n n) o) ∧ Hid (Below g w wr)) (fun _ kv _ => b.length - (intOf kv).toNat)
      case atStart => exact ⟨0, 0, o, by omega, rfl, rfl, Lib.hid HR.out.mid, HO, HBe⟩
      case round =>
        clear HR HO HBe
        obtain ⟨k, c, o, hk, rfl, rfl, HM, HO, HBe⟩ := hrel
        by_cases hkb : k < b.length
        · obtain ⟨j, hj⟩ : ∃ j, i + k = j := ⟨_, rfl⟩
          have hjn : j < n := by have := HN.out; omega
          have hol : o.length = n := by rw [HM.out.len]; exact HN.out
          obtain ⟨x, hx⟩ : ∃ x, dg a i = x := ⟨_, rfl⟩
          obtain ⟨y, hy⟩ : ∃ y, dg b k = y := ⟨_, rfl⟩
          obtain ⟨d, hd⟩ : ∃ d, dg o j = d := ⟨_, rfl⟩
          obtain ⟨m, hm⟩ : ∃ m, x * y = m := ⟨_, rfl⟩
          obtain ⟨q, hq⟩ : ∃ q, c + d = q := ⟨_, rfl⟩
          obtain ⟨t, ht⟩ : ∃ t, q + m = t := ⟨_, rfl⟩
          obtain ⟨r, hr⟩ : ∃ r, t % 65536 = r := ⟨_, rfl⟩
          obtain ⟨s, hs⟩ : ∃ s, t / 65536 = s := ⟨_, rfl⟩
          have hst := HM.out.step da db hia hkb
          rw [hj, hx, hy, hd, hm, hq, ht, hr, hs] at hst
          have HS := Lib.hid hst
          have hxl := da i
          have hyl := db k
          have hdl := HM.out.dig j
          have hcl := HM.out.car
          rw [hx] at hxl
          rw [hy] at hyl
          rw [hd] at hdl
          have hml : m ≤ 65535 * 65535 := by rw [← hm]; exact Nat.mul_le_mul (by omega) (by omega)
          have w1 : IntKind.u64.wrap ((c : Int) + (d : Int)) = (q : Int) := by rw [IntKind.wrap_u64]; omega
          have w2 : IntKind.u64.wrap ((x : Int) * (y : Int)) = (m : Int) := by rw [← Int.natCast_mul, hm, IntKind.wrap_u64]; omega
          have w3 : IntKind.u64.wrap ((q : Int) + (m : Int)) = (t : Int) := by rw [IntKind.wrap_u64]; omega
          have w4 : IntKind.i64.wrap ((i : Int) + (k : Int)) = (j : Int) := by rw [IntKind.wrap_i64]; omega
          have w5 : (i : Int) + (k : Int) = (j : Int) := by omega
          have w6 : IntKind.i64.wrap (j : Int) = (j : Int) := by rw [IntKind.wrap_i64]; omega
          have w7 : bits .and .u64 (t : Int) 65535 = (r : Int) := by rw [and16 t (by omega), hr]
          have w8 : (t : Int) / 65536 = (s : Int) := by omega
          obtain ⟨ba, oa, rfl, ca1⟩ := (HA.out.below (hg ▸ HBe.out)).at_ hia
          obtain ⟨bb, ob, rfl, cb1⟩ := (HB.out.below (hg ▸ HBe.out)).at_ hkb
          have co1 := HO.out.bs.at_ (k := j) (by omega)
          obtain ⟨bo, oo, eo, co1⟩ := co1
          injection eo with eo
          injection eo with e1 e2
          subst e1
          subst e2
          change wr.cell? _ = some (.int .u64 ((dg a i : Nat) : Int)) at ca1
          change wr.cell? _ = some (.int .u64 ((dg b k : Nat) : Int)) at cb1
          change wr.cell? _ = some (.int .u64 ((dg o j : Nat) : Int)) at co1
          rw [hx] at ca1
          rw [hy] at cb1
          rw [hd, Nat.zero_add] at co1
          have hfz := HO.out.frozen j
          have HO2 := Lib.hid (fun nq : Nat => (HO.out.drewN nq).set_ j r)
          have HB2 : Hid (∀ nq : Nat, Below g w ((wr.drewN nq).setCell ⟨g, j, none⟩ (uval r))) := Lib.hid (fun nq => (below_drewN' HBe.out nq).setCell (p := ⟨g, j, none⟩) (Nat.le_refl _) _)
          clear hst hxl hyl hdl hcl hml hx hy hd hm hq ht hr hs HM HO HBe hj hol hg
          go_wp2_with fail
          go_quiet (fail)
          go_wp2_with fail
          go_roundw
          case rel => exact ⟨k + 1, s, o.set j r, by omega, by go_num, rfl, HS, HO2.out nq, HB2.out nq⟩
          case measure => simp [intOf]; omega
        · obtain rfl : k = b.length := by omega
          obtain ⟨j, hj⟩ : ∃ j, i + b.length = j := ⟨_, rfl⟩
          have hjn : j < n := by have := HN.out; omega
          have hol : o.length = n := by rw [HM.out.len]; exact HN.out
          have hst := HM.out.close hia
          rw [hj] at hst
          have HS := Lib.hid hst
          have w5 : (i : Int) + (b.length : Int) = (j : Int) := by omega
          have co1 := HO.out.bs.at_ (k := j) (by omega)
          obtain ⟨bo, oo, eo, co1⟩ := co1
          injection eo with eo
          injection eo with e1 e2
          subst e1
          subst e2
          rw [Nat.zero_add] at co1
          have hfz := HO.out.frozen j
          have HO2 := Lib.hid (HO.out.set_ j c)
          have HB2 : Hid (Below g w (wr.setCell ⟨g, j, none⟩ (uval c))) := Lib.hid (HBe.out.setCell (p := ⟨g, j, none⟩) (Nat.le_refl _) _)
          generalize o.getD j 0 = d at *
          clear hst HM HO HBe hj hol hg
          go_wp2_with fail
          go_roundw
          case rel => exact ⟨i + 1, o.set j c, by omega, by go_num, HS, HO2, HB2⟩
          case measure => simp [intOf]; omega
    · obtain rfl : i = a.length := by omega
      have HP : Hid (TimesPost w n V (.returned (.slice (some ⟨g, 0, none⟩) n n)) wr) := Lib.hid ⟨_, _, o, rfl, HO.out.bs, by rw [HR.out.len]; exact HN.out, HR.out.dig, by rw [HR.out.end_]; exact HV.out, hg ▸ HBe.out⟩
      clear HR HO HBe hg
      go_wp2
      go_ret
      exact HP
end Go.Proofs.Yticeabijpihkhaa

