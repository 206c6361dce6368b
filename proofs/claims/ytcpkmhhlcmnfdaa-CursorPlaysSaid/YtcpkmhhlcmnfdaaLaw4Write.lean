/- bootjacklaw4.write, over whatever the program's cursor is: told by what its Write and Flush do in plain states. -/
import Derived.Test.YtcpkmhhlcmnfdaaCuSpec
import Derived.Test.YtcpkmhhlcmnfdaaRowsArg
import Derived.Test.YtcpkmhhlcmnfdaaGref
namespace Go.Proofs.Ytcpkmhhlcmnfdaa
open Go.RowKit
set_option linter.unusedVariables false
set_option maxRecDepth 100000

/-- the tail of a row -/
theorem slice_tail (A : Option Addr) (w : World) (l : List UInt8) (h : Bs w A l) (c : Nat) (hc : l.length ≤ c) (y : Nat) (hy : y ≤ l.length) : ∃ A', Bs w A' (l.drop y) ∧ (∀ k, At A' k → At A k) ∧ ∀ (u : World),
    (Instr.slice 22 (.slice A l.length c) (some (.int .i64 (y : Int))) none none).run Try.prog u = .ok (.slice A' (l.length - y) (c - y)) u := by
  by_cases hcy : c = y
  · refine ⟨A, fun hl => ?_, fun k hk => hk, fun u => ?_⟩
    · rw [List.length_drop] at hl; omega
    · rw [run_slice_l u _ _ _ _ under_bs _ _ (by omega) (by omega), sizeOf_u8]
      simp only [Result.andThen, sliced, Int.toNat_natCast, if_pos hcy]
  · refine ⟨A.map (·.add y), fun hl => ?_, ?_, fun u => ?_⟩
    · rw [List.length_drop] at hl
      obtain ⟨b, o, rfl, hcell⟩ := h (by omega)
      refine ⟨b, o + y, by rw [Option.map_some, addr_add], fun j hj => ?_⟩
      rw [List.length_drop] at hj
      rw [Nat.add_assoc, hcell (y + j) (by omega)]
      simp [List.getD, List.getElem?_drop]
    · rintro k ⟨a, e, rfl⟩
      cases A with
      | none => cases e
      | some x =>
        rw [Option.map_some] at e
        injection e with e
        subst e
        exact ⟨x, rfl, by unfold Addr.add; split <;> rfl⟩
    · rw [run_slice_l u _ _ _ _ under_bs _ _ (by omega) (by omega), sizeOf_u8]
      simp only [Result.andThen, sliced, Int.toNat_natCast, if_neg hcy, Nat.mul_one]

theorem num4_any (n : Int) (w : World) : Calls Try.prog 18 #[.int .i64 n] w fun e w' => e = .returned (.int .i64 n) ∧ w = w' := by
  go_enter Try.func18, Try.ntmps18
  go_wp2
  go_ret
  exact ⟨rfl, rfl⟩

def NCut (ps i : Nat) (L : Nat) (wr : World) (s : Value) (w1 : World) : Prop := ∃ n : Nat, s = .int .i64 (n : Int) ∧ n ≤ L ∧ (i < ps ∨ n = L) ∧ w1 = wr

def WritePost (P : World → Cu Dl → Prop) (E : Bool → Cu Dl → Prop) (e : Ending) (w' : World) : Prop := ∃ r u, e = .returned (.bool r) ∧ P w' u ∧ E r u

set_option maxHeartbeats 6400000 in
theorem write4_any {c : Nat} {w0 : World} {fa : FA} {g : Nat} {P : World → Cu Dl → (Nat → Prop) → Prop} {K : Nat → Prop} (sp : CuSpec c fa g P) (hK : ∀ j, K j → j < w0.heap.size) (J : Nat → Cu Dl → List UInt8 → Prop) (E : Bool → Cu Dl → Prop)
    (l : List UInt8) (A : Option Addr) (k : Nat) (ps : List Int) (AP : Option Addr) (kp : Nat) (fs : List Bool) (AF : Option Addr) (kf : Nat)
    (hl : Bs w0 A l) (hlK : 0 < l.length → ∀ j, At A j → K j) (hk : l.length ≤ k) (hl2 : l.length ≤ 65536) (hps : IntRow w0 AP ps) (hpsK : 0 < ps.length → ∀ j, At AP j → K j) (hps2 : ps.length ≤ 65536) (hfs : BoolRow w0 AF fs) (hfsK : 0 < fs.length → ∀ j, At AF j → K j) (hfs2 : fs.length ≤ 65536)
    (room : ∀ kk u rest, kk ≤ 2 * ps.length + 2 → J kk u rest → Room u.x.d (10 * (rest.length : Int) + 10))
    (hw : ∀ kk u rest n, kk ≤ 2 * ps.length + 2 → J kk u rest → n ≤ rest.length → ((cwrite (devOps 0 c) u (rest.take n)).1 = 0 → J (kk + 1) (cwrite (devOps 0 c) u (rest.take n)).2 (rest.drop n)) ∧ ((cwrite (devOps 0 c) u (rest.take n)).1 ≠ 0 → E false (cwrite (devOps 0 c) u (rest.take n)).2))
    (hf : 0 < fs.length → ∀ kk u rest, kk ≤ 2 * ps.length + 2 → J kk u rest → ((cflush (devOps 0 c) u).1 = 0 → J (kk + 1) (cflush (devOps 0 c) u).2 rest) ∧ ((cflush (devOps 0 c) u).1 ≠ 0 → E false (cflush (devOps 0 c) u).2))
    (he : ∀ kk u, kk ≤ 2 * ps.length + 2 → J kk u [] → E (decide ((cflush (devOps 0 c) u).1 = 0)) (cflush (devOps 0 c) u).2)
    {w : World} {u0 : Cu Dl} (hP : PK P w0 K w u0) (hJ : J 0 u0 l) :
    Calls Try.prog 30 #[.pointer (some ⟨g, 0, none⟩), .slice A l.length k, .slice AP ps.length kp, .slice AF fs.length kf] w (WritePost (PK P w0 K) E) := by
  have SP := Lib.hid sp
  have HL := Lib.hid hl
  have HLK := Lib.hid hlK
  have HPK := Lib.hid hpsK
  have HFK := Lib.hid hfsK
  have HPS := Lib.hid hps
  have HFS := Lib.hid hfs
  have HR := Lib.hid room
  have HW := Lib.hid hw
  have HF := Lib.hid hf
  have HE := Lib.hid he
  have HP0 := Lib.hid hP
  have HJ0 := Lib.hid hJ
  clear sp hl hps hfs hlK hpsK hfsK room hw hf he hP hJ
  go_enter Try.func30, Try.ntmps30
  go_wp2_with fail
  go_loopw [1, 9] (fun bv iv wr => ∃ (rest : List UInt8) (A2 : Option Addr) (k2 i z kk : Nat) (u : Cu Dl), bv = .slice A2 z k2 ∧ iv = .int .i64 (i : Int) ∧ Hid (rest.length = z) ∧ z ≤ k2 ∧ z ≤ 65536 ∧ Hid (Bs w0 A2 rest) ∧ Hid (0 < rest.length → ∀ j, At A2 j → K j) ∧ Hid (PK P w0 K wr u) ∧ Hid (J kk u rest) ∧ kk ≤ 2 * i ∧ i ≤ ps.length + 1 ∧ (ps.length < i → z = 0))
    (fun bv iv _ => (ps.length - (intOf iv).toNat) + (match bv with | .slice _ z _ => z | _ => 0))
  case atStart => exact ⟨l, A, k, 0, l.length, 0, u0, rfl, rfl, rfl, hk, hl2, HL, HLK, HP0, HJ0, by omega, by omega, fun h => by omega⟩
  case round =>
    obtain ⟨rest, A2, k2, i, z, kk, u, rfl, rfl, Hz, hzk, hz2, Hrest, HrK, HPu, HJu, hkk, hi, hiz⟩ := hrel
    by_cases h0 : 0 < z
    · have hil : i ≤ ps.length := by
        by_cases q : ps.length < i
        · have := hiz q; omega
        · omega
      go_upto_if 21 with fail
      go_cut [10] (NCut ps.length i z wr)
      case first =>
        by_cases hip : i < ps.length
        · obtain ⟨b1, o1, rfl, hc1⟩ := HPS.out (by omega)
          obtain ⟨hc2', hr1, hr2⟩ := hc1 i hip
          have hc2 := HPu.out.cell hc2' (HPK.out (by omega) b1 ⟨_, rfl, rfl⟩)
          clear hc2'
          obtain ⟨y, Hy⟩ : ∃ y, Hid (ps.getD i 0 = y) := ⟨_, rfl⟩
          rw [Hy.out] at hc2 hr1 hr2
          clear hc1
          obtain ⟨n, hn, hn2⟩ : ∃ n : Nat, (if y < 0 then (0 : Int) else if (z : Int) < y then (z : Int) else y) = (n : Int) ∧ n ≤ z := by
            by_cases q1 : y < 0
            · exact ⟨0, by rw [if_pos q1]; rfl, by omega⟩
            · by_cases q2 : (z : Int) < y
              · exact ⟨z, by rw [if_neg q1, if_pos q2], by omega⟩
              · exact ⟨y.toNat, by rw [if_neg q1, if_neg q2]; omega, by omega⟩
          have HC : Hid (∀ W, Calls Try.prog 35 #[.int .i64 y, .int .i64 0, .int .i64 (z : Int)] W fun e w' => e = .returned (.int .i64 (n : Int)) ∧ w' = W) := Lib.hid fun W => by
            have := cap_any y 0 (z : Int) W
            rw [hn] at this
            exact this
          have d1 : decide ((i : Int) < (ps.length : Int)) = true := decide_eq_true (by omega)
          go_wp2_with (go_at_call 35; (with_reducible refine (HC.out _).mono ?_); rintro e w2 ⟨rfl, rfl⟩)
          go_meet
          exact ⟨n, rfl, hn2, .inl hip, rfl⟩
        · have d1 : decide ((i : Int) < (ps.length : Int)) = false := decide_eq_false (by omega)
          go_wp2_with fail
          go_meet
          exact ⟨z, rfl, Nat.le_refl _, .inr rfl, rfl⟩
      case rest =>
        obtain ⟨n, rfl, hnz, hin, rfl⟩ := hcut
        have sl : ∀ W, (Instr.slice 22 (.slice A2 z k2) none (some (.int .i64 (n : Int))) none).run Try.prog W = .ok (.slice A2 n k2) W := fun W => slice_head A2 z k2 n (by omega) W
        obtain ⟨A3, hb3, hat3, st⟩ := slice_tail A2 w0 rest Hrest.out k2 (by rw [Hz.out]; exact hzk) n (by rw [Hz.out]; exact hnz)
        rw [Hz.out] at st
        have HB3 : Hid (Bs w0 A3 (rest.drop n)) := Lib.hid hb3
        have HK3 : Hid (0 < (rest.drop n).length → ∀ j, At A3 j → K j) := Lib.hid fun hp j hj => HrK.out (by rw [List.length_drop] at hp; omega) j (hat3 j hj)
        clear hat3
        have HD : Hid ((rest.drop n).length = z - n) := Lib.hid (by rw [List.length_drop, Hz.out])
        have hroom := HR.out kk u rest (by omega) HJu.out
        rw [Hz.out] at hroom
        have htl : (rest.take n).length = n := by rw [List.length_take, Hz.out]; omega
        have hwr := SP.out.kwrite hK HPu.out A2 (rest.take n) k2 (Hrest.out.take n) (fun hp => HrK.out (by rw [List.length_take] at hp; omega)) (by omega) (by omega) (hroom.less (by omega))
        obtain ⟨hj1, hj2⟩ := HW.out kk u rest n (by omega) HJu.out (by rw [Hz.out]; exact hnz)
        rw [htl] at hwr
        obtain ⟨r1, u1, Hr1⟩ : ∃ r1 u1, Hid (cwrite (devOps 0 c) u (rest.take n) = (r1, u1)) := ⟨_, _, rfl⟩
        rw [Hr1.out] at hwr hj1 hj2
        dsimp only at hwr hj1 hj2
        have HWR := Lib.hid hwr
        have HJ1 := Lib.hid hj1
        have HJ2 := Lib.hid hj2
        clear hb3 hroom hwr hj1 hj2 htl
        by_cases hr1 : r1 = 0
        · subst hr1
          have HJ3 := Lib.hid (HJ1.out rfl)
          by_cases hif : i < fs.length
          · have d1 : decide ((i : Int) < (fs.length : Int)) = true := decide_eq_true (by omega)
            obtain ⟨b1, o1, rfl, hc1⟩ := HFS.out (by omega)
            have hc2 := hc1 i hif
            have hbw1 : ∀ W u, PK P w0 K W u → W.cell? ⟨b1, o1 + i, none⟩ = some (.bool (fs.getD i false)) := fun W u hP => hP.cell hc2 (HFK.out (by omega) b1 ⟨_, rfl, rfl⟩)
            obtain ⟨fv, Hfv⟩ : ∃ fv, Hid (fs.getD i false = fv) := ⟨_, rfl⟩
            rw [Hfv.out] at hbw1
            have HBW := Lib.hid hbw1
            clear hc1 hc2 hbw1
            cases fv with
            | true =>
              have hroom2 := HR.out (kk + 1) u1 (rest.drop n) (by omega) HJ3.out
              obtain ⟨hf1, hf2⟩ := HF.out (by omega) (kk + 1) u1 (rest.drop n) (by omega) HJ3.out
              obtain ⟨r2, u2, Hr2⟩ : ∃ r2 u2, Hid (cflush (devOps 0 c) u1 = (r2, u2)) := ⟨_, _, rfl⟩
              have HFL : Hid (∀ W, PK P w0 K W u1 → Calls Try.prog 21 #[.pointer (some ⟨g, 0, none⟩)] W fun e w' => e = .returned (.int .i64 r2) ∧ PK P w0 K w' u2) := Lib.hid fun W hP => by
                have := SP.out.kflush hK hP (hroom2.less (by omega))
                rw [Hr2.out] at this
                exact this
              rw [Hr2.out] at hf1 hf2
              dsimp only at hf1 hf2
              have HF1 := Lib.hid hf1
              have HF2 := Lib.hid hf2
              clear hf1 hf2 hroom2
              by_cases hr2 : r2 = 0
              · subst hr2
                have HJ4 := Lib.hid (HF1.out rfl)
                go_wp2_with fail
                (with_reducible refine HWR.out.mono ?_)
                rintro e w2 ⟨rfl, hp2⟩
                have HP2 := Lib.hid hp2
                have hfc := HBW.out _ _ hp2
                clear hp2
                go_wp2_with fail
                refine (num4_any _ _).mono ?_
                rintro e w' ⟨rfl, rfl⟩
                go_wp2_with fail
                (with_reducible refine (HFL.out _ HP2.out).mono ?_)
                rintro e w3 ⟨rfl, hp3⟩
                have HP3 := Lib.hid hp3
                clear hp3 hfc
                go_wp2_with fail
                refine (num4_any _ _).mono ?_
                rintro e w' ⟨rfl, rfl⟩
                go_wp2_with fail
                go_roundw
                case rel => exact ⟨rest.drop n, A3, k2 - n, i + 1, z - n, kk + 1 + 1, u2, rfl, by go_num, HD.out, by omega, by omega, HB3, HK3, HP3, HJ4, by omega, by omega, fun h => by omega⟩
                case measure => simp [intOf]; omega
              · have hr2b : (r2 == 0) = false := by simpa using hr2
                have HE2 := Lib.hid (HF2.out hr2)
                go_wp2_with fail
                (with_reducible refine HWR.out.mono ?_)
                rintro e w2 ⟨rfl, hp2⟩
                have HP2 := Lib.hid hp2
                have hfc := HBW.out _ _ hp2
                clear hp2
                go_wp2_with fail
                refine (num4_any _ _).mono ?_
                rintro e w' ⟨rfl, rfl⟩
                go_wp2_with fail
                (with_reducible refine (HFL.out _ HP2.out).mono ?_)
                rintro e w3 ⟨rfl, hp3⟩
                have HP3 := Lib.hid hp3
                clear hp3 hfc
                go_wp2_with fail
                refine (num4_any _ _).mono ?_
                rintro e w' ⟨rfl, rfl⟩
                go_wp2_with fail
                go_ret
                exact ⟨false, u2, rfl, HP3.out, HE2.out⟩
            | false =>
              go_wp2_with fail
              (with_reducible refine HWR.out.mono ?_)
              rintro e w2 ⟨rfl, hp2⟩
              have HP2 := Lib.hid hp2
              have hfc := HBW.out _ _ hp2
              clear hp2
              go_wp2_with fail
              refine (num4_any _ _).mono ?_
              rintro e w' ⟨rfl, rfl⟩
              go_wp2_with fail
              go_roundw
              case rel => exact ⟨rest.drop n, A3, k2 - n, i + 1, z - n, kk + 1, u1, rfl, by go_num, HD.out, by omega, by omega, HB3, HK3, HP2, HJ3, by omega, by omega, fun h => by omega⟩
              case measure => simp [intOf]; omega
          · have d1 : decide ((i : Int) < (fs.length : Int)) = false := decide_eq_false (by omega)
            go_wp2_with fail
            (with_reducible refine HWR.out.mono ?_)
            rintro e w2 ⟨rfl, hp2⟩
            have HP2 := Lib.hid hp2
            clear hp2
            go_wp2_with fail
            refine (num4_any _ _).mono ?_
            rintro e w' ⟨rfl, rfl⟩
            go_wp2_with fail
            go_roundw
            case rel => exact ⟨rest.drop n, A3, k2 - n, i + 1, z - n, kk + 1, u1, rfl, by go_num, HD.out, by omega, by omega, HB3, HK3, HP2, HJ3, by omega, by omega, fun h => by omega⟩
            case measure => simp [intOf]; omega
        · have hr1b : (r1 == 0) = false := by simpa using hr1
          have HE2 := Lib.hid (HJ2.out hr1)
          go_wp2_with fail
          (with_reducible refine HWR.out.mono ?_)
          rintro e w2 ⟨rfl, hp2⟩
          have HP2 := Lib.hid hp2
          clear hp2
          go_wp2_with fail
          refine (num4_any _ _).mono ?_
          rintro e w' ⟨rfl, rfl⟩
          go_wp2_with fail
          go_ret
          exact ⟨false, u1, rfl, HP2.out, HE2.out⟩
    · obtain rfl : z = 0 := by omega
      have hnil : rest = [] := List.eq_nil_of_length_eq_zero Hz.out
      subst hnil
      have hroom := HR.out kk u [] (by omega) HJu.out
      have hend := HE.out kk u (by omega) HJu.out
      have hfl := SP.out.kflush hK HPu.out (hroom.less (by simp))
      obtain ⟨r2, u2, Hr2⟩ : ∃ r2 u2, Hid (cflush (devOps 0 c) u = (r2, u2)) := ⟨_, _, rfl⟩
      rw [Hr2.out] at hfl hend
      dsimp only at hfl hend
      have HFL := Lib.hid hfl
      have HEND := Lib.hid hend
      clear hroom hend hfl
      go_wp2_with fail
      (with_reducible refine HFL.out.mono ?_)
      rintro e w3 ⟨rfl, hp3⟩
      have HP3 := Lib.hid hp3
      clear hp3
      go_wp2_with fail
      refine (num4_any _ _).mono ?_
      rintro e w' ⟨rfl, rfl⟩
      by_cases hr2 : r2 = 0
      · subst hr2
        go_wp2_with fail
        go_ret
        exact ⟨true, u2, rfl, HP3.out, by simpa using HEND.out⟩
      · have hr2b : (r2 == 0) = false := by simpa using hr2
        go_wp2_with fail
        go_ret
        exact ⟨false, u2, rfl, HP3.out, by simpa [hr2] using HEND.out⟩
end Go.Proofs.Ytcpkmhhlcmnfdaa

