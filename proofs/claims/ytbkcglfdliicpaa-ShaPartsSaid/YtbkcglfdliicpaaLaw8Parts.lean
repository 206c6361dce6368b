/- bootjacklaw8.parts walked, over whatever the program's Hash is. Written by wip/tools/mk_parts8.py. -/
import Derived.Test.YtbkcglfdliicpaaLaw8Tells
import Derived.Test.YtbkcglfdliicpaaRowsArg
namespace Go.Proofs.Ytbkcglfdliicpaa
open Go.RowKit
set_option linter.unusedVariables false
set_option maxRecDepth 100000

theorem Only.trans2 {F F2 : Nat → Prop} {w w1 w2 : World} (h : Only F w w1) (k : Only F2 w1 w2) (hF : ∀ j, F2 j → F j ∨ w.heap.size ≤ j) : Only F w w2 :=
  ⟨k.os.trans h.os, k.tape.trans h.tape, k.output.trans h.output, Nat.le_trans h.size k.size, fun j hj hn => by
    rw [k.block j (Nat.lt_of_lt_of_le hj h.size) (fun hf => by rcases hF j hf with h1 | h1; exact hn h1; omega)]
    exact h.block j hj hn⟩
theorem IntRow.only {F : Nat → Prop} {w w' : World} {A : Option Addr} {L : List Int} (h : IntRow w A L) (hb : Only F w w') (hA : ∀ k, 0 < L.length → At A k → ¬ F k) : IntRow w' A L := fun hl => by
  obtain ⟨b, o, e, hc⟩ := h hl
  refine ⟨b, o, e, fun j hj => ⟨?_, (hc j hj).2⟩⟩
  have hlt := World.block_lt_of_cell? w _ (hc j hj).1
  rw [World.cell?_of_block (hb.block b hlt (hA b hl ⟨_, e, rfl⟩))]
  exact (hc j hj).1

set_option maxHeartbeats 3200000 in
theorem parts8_any {H : HashP} (C : ShaC H) {W : World} {g : Nat} {h : Sh} {F : Nat → Prop} (hh : H W g h F) (A B : Option Addr) (l : List UInt8) (L : List Int) (c c' : Nat) (hb : Bs W A l) (hc : l.length ≤ c) (hL : IntRow W B L)
    (hAF : ∀ k, 0 < l.length → At A k → ¬ F k) (hBF : ∀ k, 0 < L.length → At B k → ¬ F k) (hhn : h.n ≤ 1152921504606846976) (hl : l.length ≤ 1000) (hLl : L.length ≤ 1000) :
    Calls Try.prog 14 #[.pointer (some ⟨g, 0, none⟩), .slice A l.length c, .slice B L.length c'] W fun e w' => e = .returned (.tuple #[]) ∧ ∃ F', H w' g (h.add l) F' ∧ (∀ j, F' j → F j ∨ W.heap.size ≤ j) ∧ Only F W w' := by
  have HH0 : Hid (H W g (h.add (l.take 0)) F) := Lib.hid (by rw [List.take_zero, Sh.add_nil (C.ok hh)]; exact hh)
  have HB := Lib.hid hb
  have HAF := Lib.hid hAF
  have HBF := Lib.hid hBF
  have HLR := Lib.hid hL
  obtain ⟨n, hn⟩ : ∃ n, l.length = n := ⟨_, rfl⟩
  obtain ⟨x, hx⟩ : ∃ n, L.length = n := ⟨_, rfl⟩
  have HX := Lib.hid hx
  rw [hn] at hc hl ⊢
  rw [hx] at hLl ⊢
  have HN := Lib.hid hn
  clear hh hb hAF hBF hL hn hx
  go_enter Try.func14, Try.ntmps14
  go_wp2_with fail
  go_loopw [1, 6] (fun v i wr => ∃ (k N Cc t : Nat) (A' : Option Addr) (Fk : Nat → Prop), k ≤ n ∧ N = n - k ∧ v = .slice A' N Cc ∧ N ≤ Cc ∧ i = .int .i64 (t : Int) ∧ t ≤ x + k ∧ Hid (Bs wr A' (l.drop k)) ∧ Hid (∀ j, At A' j → At A j) ∧
      Hid (H wr g (h.add (l.take k)) Fk) ∧ Hid (∀ j, Fk j → F j ∨ W.heap.size ≤ j) ∧ Hid (Only F W wr)) (fun v i _ => sLen v + (x - (intOf i).toNat))
  case atStart => exact ⟨0, n, c, 0, A, F, by omega, by omega, rfl, hc, rfl, by omega, HB, Lib.hid fun j h => h, HH0, Lib.hid fun j h => .inl h, Lib.hid (Only.refl _ _)⟩
  case round =>
    clear HH0
    obtain ⟨k, N, Cc, t, A', Fk, hk, hN, rfl, hNC, rfl, ht, HBS, HAT, HH, HFK, HO⟩ := hrel
    have hdl : (l.drop k).length = N := by rw [List.length_drop, HN.out, hN]
    by_cases hpos : 0 < N
    · have hln : l.length = n := HN.out
      have hpI : (0 : Int) < (N : Int) := by omega
      have htb : (t : Int) ≤ 2000 := by omega
      by_cases htx : t < x
      · have htI : (t : Int) < (x : Int) := by omega
        obtain ⟨bb, oo, rfl, hcs⟩ := (HLR.out.only HO.out HBF.out) (by rw [HX.out]; omega)
        obtain ⟨hcell, hv1, hv2⟩ := hcs t (by rw [HX.out]; exact htx)
        clear hcs
        generalize L.getD t 0 = v at *
        by_cases hv0 : 0 ≤ v
        · by_cases hvN : v < (N : Int)
          · obtain ⟨q, rfl⟩ : ∃ q : Nat, v = (q : Int) := ⟨v.toNat, by omega⟩
            have hqN : q ≤ N := by omega
            obtain ⟨A2, hA2, hat2, hs2⟩ := sl_tail A' wr (l.drop k) HBS.out Cc (by rw [hdl]; exact hNC) q (by rw [hdl]; exact hqN) .i64
            rw [hdl] at hs2
            rw [List.drop_drop] at hA2
            have hs2' : ∀ u, (Instr.slice 22 (.slice A' N Cc) (some (.int .i64 (q : Int))) none none).run Try.prog u = .ok (.slice A2 (N - q) (Cc - q)) u := fun u => hs2 (q : Int) rfl u
            have hs1 : ∀ u, (Instr.slice 22 (.slice A' N Cc) none (some (.int .i64 (q : Int))) none).run Try.prog u = .ok (.slice A' q Cc) u := fun u => sl_head A' N Cc q (by omega) .i64 (q : Int) rfl u
            have htl : ((l.drop k).take q).length = q := by rw [List.length_take, hdl]; omega
            have hoff : ∀ j, At A' j → ¬ Fk j := fun j hj hf => by
              have h1 := HAT.out j hj
              rcases HFK.out j hf with h2 | h2
              · exact HAF.out j (by omega) h1 h2
              · have := bs_lt HB.out (by omega) h1; omega
            have HWK := Lib.hid (C.write A' ((l.drop k).take q) Cc HH.out (bs_take HBS.out q) (by rw [htl]; omega) (fun j _ hj => hoff j hj) (by show h.n + (l.take k).length ≤ _; rw [List.length_take]; omega) (by rw [htl]; omega))
            have hadd : (h.add (l.take k)).add ((l.drop k).take q) = h.add (l.take (k + q)) := by rw [Sh.add_add, List.take_add]
            rw [htl, hadd] at HWK
            have HA2 := Lib.hid hA2
            have HOF := Lib.hid hoff
            have HT2 : Hid (∀ j, At A2 j → At A j) := Lib.hid fun j hj => HAT.out j (hat2 j hj)
            have HT3 := Lib.hid hat2
            have HNK := Lib.hid hN
            clear hs2 hA2 hat2 htl hadd hoff HH HBS hN hdl
            go_wp2_with fail
            with_reducible refine HWK.out.mono ?_
            rintro e w2 ⟨rfl, F2, hh2, hF2, ho2⟩
            have HH2 := Lib.hid hh2
            have HF3 : Hid (∀ j, F2 j → F j ∨ W.heap.size ≤ j) := Lib.hid fun j hj => by
              rcases hF2 j hj with h1 | h1
              · exact HFK.out j h1
              · exact .inr (Nat.le_trans HO.out.size h1)
            have HO3 : Hid (Only F W w2) := Lib.hid (HO.out.trans2 ho2 HFK.out)
            have HBS3 : Hid (Bs w2 A2 (l.drop (k + q))) := Lib.hid (HA2.out.only ho2 fun j hj => HOF.out j (HT3.out j hj))
            clear hh2 hF2 ho2 HWK HFK HO HA2 HOF HT3
            go_wp2_with fail
            go_roundw
            case rel => exact ⟨k + q, N - q, Cc - q, t + 1, A2, F2, by have := HNK.out; omega, by have := HNK.out; omega, by first | rfl | rw [Nat.sub_self], by omega, by go_num, by have := HNK.out; omega, HBS3, HT2, HH2, HF3, HO3⟩
            case measure => simp [sLen, intOf]; omega
          · obtain ⟨q, hqe⟩ : ∃ q, N = q := ⟨_, rfl⟩
            clear hqe
            have hqN : N ≤ N := Nat.le_refl _
            obtain ⟨A2, hA2, hat2, hs2⟩ := sl_tail A' wr (l.drop k) HBS.out Cc (by rw [hdl]; exact hNC) N (by rw [hdl]; exact hqN) .i64
            rw [hdl] at hs2
            rw [List.drop_drop] at hA2
            have hs2' : ∀ u, (Instr.slice 22 (.slice A' N Cc) (some (.int .i64 (N : Int))) none none).run Try.prog u = .ok (.slice A2 (N - N) (Cc - N)) u := fun u => hs2 (N : Int) rfl u
            have hs1 : ∀ u, (Instr.slice 22 (.slice A' N Cc) none (some (.int .i64 (N : Int))) none).run Try.prog u = .ok (.slice A' N Cc) u := fun u => sl_head A' N Cc N (by omega) .i64 (N : Int) rfl u
            have htl : ((l.drop k).take N).length = N := by rw [List.length_take, hdl]; omega
            have hoff : ∀ j, At A' j → ¬ Fk j := fun j hj hf => by
              have h1 := HAT.out j hj
              rcases HFK.out j hf with h2 | h2
              · exact HAF.out j (by omega) h1 h2
              · have := bs_lt HB.out (by omega) h1; omega
            have HWK := Lib.hid (C.write A' ((l.drop k).take N) Cc HH.out (bs_take HBS.out N) (by rw [htl]; omega) (fun j _ hj => hoff j hj) (by show h.n + (l.take k).length ≤ _; rw [List.length_take]; omega) (by rw [htl]; omega))
            have hadd : (h.add (l.take k)).add ((l.drop k).take N) = h.add (l.take (k + N)) := by rw [Sh.add_add, List.take_add]
            rw [htl, hadd] at HWK
            have HA2 := Lib.hid hA2
            have HOF := Lib.hid hoff
            have HT2 : Hid (∀ j, At A2 j → At A j) := Lib.hid fun j hj => HAT.out j (hat2 j hj)
            have HT3 := Lib.hid hat2
            have HNK := Lib.hid hN
            clear hs2 hA2 hat2 htl hadd hoff HH HBS hN hdl
            go_wp2_with fail
            with_reducible refine HWK.out.mono ?_
            rintro e w2 ⟨rfl, F2, hh2, hF2, ho2⟩
            have HH2 := Lib.hid hh2
            have HF3 : Hid (∀ j, F2 j → F j ∨ W.heap.size ≤ j) := Lib.hid fun j hj => by
              rcases hF2 j hj with h1 | h1
              · exact HFK.out j h1
              · exact .inr (Nat.le_trans HO.out.size h1)
            have HO3 : Hid (Only F W w2) := Lib.hid (HO.out.trans2 ho2 HFK.out)
            have HBS3 : Hid (Bs w2 A2 (l.drop (k + N))) := Lib.hid (HA2.out.only ho2 fun j hj => HOF.out j (HT3.out j hj))
            clear hh2 hF2 ho2 HWK HFK HO HA2 HOF HT3
            go_wp2_with fail
            go_roundw
            case rel => exact ⟨k + N, N - N, Cc - N, t + 1, A2, F2, by have := HNK.out; omega, by have := HNK.out; omega, by first | rfl | rw [Nat.sub_self], by omega, by go_num, by have := HNK.out; omega, HBS3, HT2, HH2, HF3, HO3⟩
            case measure => simp [sLen, intOf]; omega
        · obtain ⟨q, hqe⟩ : ∃ q, N = q := ⟨_, rfl⟩
          clear hqe
          have hqN : N ≤ N := Nat.le_refl _
          obtain ⟨A2, hA2, hat2, hs2⟩ := sl_tail A' wr (l.drop k) HBS.out Cc (by rw [hdl]; exact hNC) N (by rw [hdl]; exact hqN) .i64
          rw [hdl] at hs2
          rw [List.drop_drop] at hA2
          have hs2' : ∀ u, (Instr.slice 22 (.slice A' N Cc) (some (.int .i64 (N : Int))) none none).run Try.prog u = .ok (.slice A2 (N - N) (Cc - N)) u := fun u => hs2 (N : Int) rfl u
          have hs1 : ∀ u, (Instr.slice 22 (.slice A' N Cc) none (some (.int .i64 (N : Int))) none).run Try.prog u = .ok (.slice A' N Cc) u := fun u => sl_head A' N Cc N (by omega) .i64 (N : Int) rfl u
          have htl : ((l.drop k).take N).length = N := by rw [List.length_take, hdl]; omega
          have hoff : ∀ j, At A' j → ¬ Fk j := fun j hj hf => by
            have h1 := HAT.out j hj
            rcases HFK.out j hf with h2 | h2
            · exact HAF.out j (by omega) h1 h2
            · have := bs_lt HB.out (by omega) h1; omega
          have HWK := Lib.hid (C.write A' ((l.drop k).take N) Cc HH.out (bs_take HBS.out N) (by rw [htl]; omega) (fun j _ hj => hoff j hj) (by show h.n + (l.take k).length ≤ _; rw [List.length_take]; omega) (by rw [htl]; omega))
          have hadd : (h.add (l.take k)).add ((l.drop k).take N) = h.add (l.take (k + N)) := by rw [Sh.add_add, List.take_add]
          rw [htl, hadd] at HWK
          have HA2 := Lib.hid hA2
          have HOF := Lib.hid hoff
          have HT2 : Hid (∀ j, At A2 j → At A j) := Lib.hid fun j hj => HAT.out j (hat2 j hj)
          have HT3 := Lib.hid hat2
          have HNK := Lib.hid hN
          clear hs2 hA2 hat2 htl hadd hoff HH HBS hN hdl
          go_wp2_with fail
          with_reducible refine HWK.out.mono ?_
          rintro e w2 ⟨rfl, F2, hh2, hF2, ho2⟩
          have HH2 := Lib.hid hh2
          have HF3 : Hid (∀ j, F2 j → F j ∨ W.heap.size ≤ j) := Lib.hid fun j hj => by
            rcases hF2 j hj with h1 | h1
            · exact HFK.out j h1
            · exact .inr (Nat.le_trans HO.out.size h1)
          have HO3 : Hid (Only F W w2) := Lib.hid (HO.out.trans2 ho2 HFK.out)
          have HBS3 : Hid (Bs w2 A2 (l.drop (k + N))) := Lib.hid (HA2.out.only ho2 fun j hj => HOF.out j (HT3.out j hj))
          clear hh2 hF2 ho2 HWK HFK HO HA2 HOF HT3
          go_wp2_with fail
          go_roundw
          case rel => exact ⟨k + N, N - N, Cc - N, t + 1, A2, F2, by have := HNK.out; omega, by have := HNK.out; omega, by first | rfl | rw [Nat.sub_self], by omega, by go_num, by have := HNK.out; omega, HBS3, HT2, HH2, HF3, HO3⟩
          case measure => simp [sLen, intOf]; omega
      · have htI : ¬ (t : Int) < (x : Int) := by omega
        obtain ⟨q, hqe⟩ : ∃ q, N = q := ⟨_, rfl⟩
        clear hqe
        have hqN : N ≤ N := Nat.le_refl _
        obtain ⟨A2, hA2, hat2, hs2⟩ := sl_tail A' wr (l.drop k) HBS.out Cc (by rw [hdl]; exact hNC) N (by rw [hdl]; exact hqN) .i64
        rw [hdl] at hs2
        rw [List.drop_drop] at hA2
        have hs2' : ∀ u, (Instr.slice 22 (.slice A' N Cc) (some (.int .i64 (N : Int))) none none).run Try.prog u = .ok (.slice A2 (N - N) (Cc - N)) u := fun u => hs2 (N : Int) rfl u
        have hs1 : ∀ u, (Instr.slice 22 (.slice A' N Cc) none (some (.int .i64 (N : Int))) none).run Try.prog u = .ok (.slice A' N Cc) u := fun u => sl_head A' N Cc N (by omega) .i64 (N : Int) rfl u
        have htl : ((l.drop k).take N).length = N := by rw [List.length_take, hdl]; omega
        have hoff : ∀ j, At A' j → ¬ Fk j := fun j hj hf => by
          have h1 := HAT.out j hj
          rcases HFK.out j hf with h2 | h2
          · exact HAF.out j (by omega) h1 h2
          · have := bs_lt HB.out (by omega) h1; omega
        have HWK := Lib.hid (C.write A' ((l.drop k).take N) Cc HH.out (bs_take HBS.out N) (by rw [htl]; omega) (fun j _ hj => hoff j hj) (by show h.n + (l.take k).length ≤ _; rw [List.length_take]; omega) (by rw [htl]; omega))
        have hadd : (h.add (l.take k)).add ((l.drop k).take N) = h.add (l.take (k + N)) := by rw [Sh.add_add, List.take_add]
        rw [htl, hadd] at HWK
        have HA2 := Lib.hid hA2
        have HOF := Lib.hid hoff
        have HT2 : Hid (∀ j, At A2 j → At A j) := Lib.hid fun j hj => HAT.out j (hat2 j hj)
        have HT3 := Lib.hid hat2
        have HNK := Lib.hid hN
        clear hs2 hA2 hat2 htl hadd hoff HH HBS hN hdl
        go_wp2_with fail
        with_reducible refine HWK.out.mono ?_
        rintro e w2 ⟨rfl, F2, hh2, hF2, ho2⟩
        have HH2 := Lib.hid hh2
        have HF3 : Hid (∀ j, F2 j → F j ∨ W.heap.size ≤ j) := Lib.hid fun j hj => by
          rcases hF2 j hj with h1 | h1
          · exact HFK.out j h1
          · exact .inr (Nat.le_trans HO.out.size h1)
        have HO3 : Hid (Only F W w2) := Lib.hid (HO.out.trans2 ho2 HFK.out)
        have HBS3 : Hid (Bs w2 A2 (l.drop (k + N))) := Lib.hid (HA2.out.only ho2 fun j hj => HOF.out j (HT3.out j hj))
        clear hh2 hF2 ho2 HWK HFK HO HA2 HOF HT3
        go_wp2_with fail
        go_roundw
        case rel => exact ⟨k + N, N - N, Cc - N, t + 1, A2, F2, by have := HNK.out; omega, by have := HNK.out; omega, by first | rfl | rw [Nat.sub_self], by omega, by go_num, by have := HNK.out; omega, HBS3, HT2, HH2, HF3, HO3⟩
        case measure => simp [sLen, intOf]; omega
    · have hz : ¬ (0 : Int) < (N : Int) := by omega
      have hkn : k = n := by omega
      have HF : Hid (H wr g (h.add l) Fk) := Lib.hid (by
        have := HH.out
        rwa [List.take_of_length_le (by rw [HN.out]; omega)] at this)
      clear HH HBS hN hdl
      go_wp2_with fail
      go_end0
      exact ⟨rfl, Fk, HF.out, HFK.out, HO.out⟩
end Go.Proofs.Ytbkcglfdliicpaa

