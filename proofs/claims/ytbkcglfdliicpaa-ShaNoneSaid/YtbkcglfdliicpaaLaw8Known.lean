/- ShaKnown walked, over whatever the program's Hash is. Written by wip/tools/mk_known8.py. -/
import Derived.Test.YtbkcglfdliicpaaLaw8None
import Derived.Laws.IdiomStrings
namespace Go.Proofs.Ytbkcglfdliicpaa
open Go.RowKit
set_option linter.unusedVariables false
set_option maxRecDepth 100000

def digits : List UInt8 := [48, 49, 50, 51, 52, 53, 54, 55, 56, 57, 97, 98, 99, 100, 101, 102]
def hexD (n : Nat) : UInt8 := digits.getD n 0
def hexB (l : List UInt8) : List UInt8 := l.flatMap fun b => [hexD (b.toNat / 16), hexD (b.toNat % 16)]
theorem hexB_len (l : List UInt8) : (hexB l).length = 2 * l.length := by
  unfold hexB
  induction l with
  | nil => rfl
  | cons a l ih => rw [List.flatMap_cons, List.length_append, ih]; simp; omega
theorem hexB_snoc (l : List UInt8) (b : UInt8) : hexB (l ++ [b]) = hexB l ++ [hexD (b.toNat / 16)] ++ [hexD (b.toNat % 16)] := by
  simp [hexB]
theorem digits_at : ∀ h : Nat, h < 16 → (digits.drop h).take 1 = [hexD h] := by decide
theorem strB_append (l m : List UInt8) : strB l ++ strB m = strB (l ++ m) := by
  unfold strB
  rw [ByteArray.mk_append_mk]
theorem strB_size (l : List UInt8) : (strB l).size = l.length := by simp [strB, ByteArray.size]
theorem cut_digits (h : Nat) (hh : h < 16) (k : IntKind) (u : World) : (Instr.slice 9 (Value.string { data := #[48, 49, 50, 51, 52, 53, 54, 55, 56, 57, 97, 98, 99, 100, 101, 102] }) (some (.int k (h : Int))) (some (.int k ((h : Int) + 1))) none).run Try.prog u = .ok (.string (strB [hexD h])) u := by
  have e : ((⟨digits.toArray⟩ : ByteArray).extract h (h + 1)) = strB [hexD h] := by
    rw [ByteArray.extract_mk, Nat.add_sub_cancel_left, digits_at h hh]
    rfl
  have hr := run_slice_string (P := Try.prog) u 9 ⟨digits.toArray⟩ k k (h : Int) ((h : Int) + 1) Try.underlying9 (by omega) (by omega) (by
    have : (⟨digits.toArray⟩ : ByteArray).size = 16 := rfl
    rw [this]; omega)
  rw [show ((h : Int)).toNat = h from rfl, show ((h : Int) + 1).toNat = h + 1 by omega, e] at hr
  exact hr
theorem add_str (a b : List UInt8) (ha : a.length + b.length ≤ 1000) (u : World) : (Op.stringOp .add (strB a) (strB b)).run Try.prog u = .ok (.string (strB (a ++ b))) u := by
  rw [run_string_add_sum u _ _ (by rw [strB_size, strB_size]; omega), strB_append]

theorem wpList_runsW {P : Program} {ops : Array Oper} {rest : List Oper} {o : Oper} {a : Act} {w w' : World} {Q : Exit → Act → World → Prop} (hgd : o.guard = none) (v : Value)
    (hrun : (execOp (Act.eval a) o).run P w = .ok (.value v) w') (h : wpList P ops Q rest (a.put o.dst v) w') : wpList P ops Q (o :: rest) a w := by
  refine wpList_plain hgd fun K hK => ?_
  unfold Oper.wp
  rw [hrun]
  exact hK _ _ h
theorem run_conv_opW {P : Program} {ρ : Operand → Value} {o : Oper} {w w' : World} {src dst : TypeId} {x : Operand} {v s : Value} (ho : o.op = .convert src dst x) (hx : ρ x = v) (h : (convert src dst v).run P w = .ok s w') :
    (execOp ρ o).run P w = .ok (.value s) w' := by
  unfold execOp
  simp only [ho, hx, Sem.run_bind, h, Result.andThen_ok, Sem.run_pure]
theorem run_eql_str {P : Program} {ρ : Operand → Value} {o : Oper} {w : World} {T T' : TypeId} {x y : Operand} {s : ByteArray} (ho : o.op = .binOp .eql T x y T') (hx : ρ x = .string s) (hy : ρ y = .string s) :
    (execOp ρ o).run P w = .ok (.value (.bool true)) w := by
  unfold execOp
  simp [ho, hx, hy, eqGuard, binOp_string_eql]

/-- a text laid out as bytes -/
theorem text_bytes (u : World) (t : List UInt8) : ∃ c W, (convert 9 22 (.string (strB t))).run Try.prog u = .ok (.slice (some ⟨u.heap.size, 0, none⟩) t.length c) W ∧ t.length ≤ c ∧ Bs W (some ⟨u.heap.size, 0, none⟩) t ∧ Below u.heap.size u W ∧ u.heap.size < W.heap.size := by
  have h := run_bytes_of_string (P := Try.prog) u 9 22 5 (strB t) Try.underlying9 Try.underlying22 Try.underlying5
  rw [strB_size] at h
  refine ⟨_, _, h, ?_, fun hl => ⟨u.heap.size, 0, rfl, fun j hj => ?_⟩, ?_, by simp⟩
  · exact grownCap_ge u t.length 0 5
  · have hb := heap_alloc_new u.drew (.cells (bytesRow (strB t) (grownCap u t.length 0 5)) 5 ((bytesRow (strB t) (grownCap u t.length 0 5)).size, (bytesRow (strB t) (grownCap u t.length 0 5)).size + 1))
    rw [Nat.zero_add]
    have hc := cell_of_row _ u.heap.size j _ _ _ hb
    rw [hc, bytesRow_at _ _ _ (by simpa [strB] using hj)]
    simp [strB, List.getD, List.getElem?_eq_getElem hj]
  · exact below_alloc (Below.refl u.heap.size u).drew _

theorem hex0 : ([99, 102, 56, 51, 101, 49, 51, 53, 55, 101, 101, 102, 98, 56, 98, 100, 102, 49, 53, 52, 50, 56, 53, 48, 100, 54, 54, 100, 56, 48, 48, 55, 100, 54, 50, 48, 101, 52, 48, 53, 48, 98, 53, 55, 49, 53, 100, 99, 56, 51, 102, 52, 97, 57, 50, 49, 100, 51, 54, 99, 101, 57, 99, 101].append [52, 55, 100, 48, 100, 49, 51, 99, 53, 100, 56, 53, 102, 50, 98, 48, 102, 102, 56, 51, 49, 56, 100, 50, 56, 55, 55, 101, 101, 99, 50, 102, 54, 51, 98, 57, 51, 49, 98, 100, 52, 55, 52, 49, 55, 97, 56, 49, 97, 53, 51, 56, 51, 50, 55, 97, 102, 57, 50, 55, 100, 97, 51, 101]) = hexB dig0 := by decide +kernel
theorem hex1 : ([100, 100, 97, 102, 51, 53, 97, 49, 57, 51, 54, 49, 55, 97, 98, 97, 99, 99, 52, 49, 55, 51, 52, 57, 97, 101, 50, 48, 52, 49, 51, 49, 49, 50, 101, 54, 102, 97, 52, 101, 56, 57, 97, 57, 55, 101, 97, 50, 48, 97, 57, 101, 101, 101, 101, 54, 52, 98, 53, 53, 100, 51, 57, 97].append [50, 49, 57, 50, 57, 57, 50, 97, 50, 55, 52, 102, 99, 49, 97, 56, 51, 54, 98, 97, 51, 99, 50, 51, 97, 51, 102, 101, 101, 98, 98, 100, 52, 53, 52, 100, 52, 52, 50, 51, 54, 52, 51, 99, 101, 56, 48, 101, 50, 97, 57, 97, 99, 57, 52, 102, 97, 53, 52, 99, 97, 52, 57, 102]) = hexB dig1 := by decide +kernel
theorem hex2 : ([56, 101, 57, 53, 57, 98, 55, 53, 100, 97, 101, 51, 49, 51, 100, 97, 56, 99, 102, 52, 102, 55, 50, 56, 49, 52, 102, 99, 49, 52, 51, 102, 56, 102, 55, 55, 55, 57, 99, 54, 101, 98, 57, 102, 55, 102, 97, 49, 55, 50, 57, 57, 97, 101, 97, 100, 98, 54, 56, 56, 57, 48, 49, 56].append [53, 48, 49, 100, 50, 56, 57, 101, 52, 57, 48, 48, 102, 55, 101, 52, 51, 51, 49, 98, 57, 57, 100, 101, 99, 52, 98, 53, 52, 51, 51, 97, 99, 55, 100, 51, 50, 57, 101, 101, 98, 54, 100, 100, 50, 54, 53, 52, 53, 101, 57, 54, 101, 53, 53, 98, 56, 55, 52, 98, 101, 57, 48, 57]) = hexB dig2 := by decide +kernel
theorem wp_at {P : Program} {c : Code} {Q : Exit → Act → World → Prop} {a : Act} {w : World} (h : ∀ W, W = w → c.wp P Q a W) : c.wp P Q a w := h w rfl

set_option maxHeartbeats 3200000 in
theorem law8KnownIn {H : HashP} (C : ShaC H) (j : Nat) (hj : j < 3) (w : World) :
    Calls Try.prog 7 #[.int .i64 (j : Int)] w fun e w' => e = .returned (.bool true) ∧ Below w.heap.size w w' := by
  have HA := Lib.hid (fun W => alive8_any C W)
  obtain ⟨txt, D, hL, hV, hD, hDl, htl⟩ : ∃ (txt D : List UInt8), (#[Value.string { data := #[] }, Value.string { data := #[97, 98, 99] }, Value.string { data := ([97, 98, 99, 100, 101, 102, 103, 104, 98, 99, 100, 101, 102, 103, 104, 105, 99, 100, 101, 102, 103, 104, 105, 106, 100, 101, 102, 103, 104, 105, 106, 107, 101, 102, 103, 104, 105, 106, 107, 108, 102, 103, 104, 105, 106, 107, 108, 109, 103, 104, 105, 106, 107, 108, 109, 110].append [104, 105, 106, 107, 108, 109, 110, 111, 105, 106, 107, 108, 109, 110, 111, 112, 106, 107, 108, 109, 110, 111, 112, 113, 107, 108, 109, 110, 111, 112, 113, 114, 108, 109, 110, 111, 112, 113, 114, 115, 109, 110, 111, 112, 113, 114, 115, 116, 110, 111, 112, 113, 114, 115, 116, 117]).toArray }] : Array Value)[j]? = some (.string (strB txt)) ∧ (#[Value.string { data := ([99, 102, 56, 51, 101, 49, 51, 53, 55, 101, 101, 102, 98, 56, 98, 100, 102, 49, 53, 52, 50, 56, 53, 48, 100, 54, 54, 100, 56, 48, 48, 55, 100, 54, 50, 48, 101, 52, 48, 53, 48, 98, 53, 55, 49, 53, 100, 99, 56, 51, 102, 52, 97, 57, 50, 49, 100, 51, 54, 99, 101, 57, 99, 101].append [52, 55, 100, 48, 100, 49, 51, 99, 53, 100, 56, 53, 102, 50, 98, 48, 102, 102, 56, 51, 49, 56, 100, 50, 56, 55, 55, 101, 101, 99, 50, 102, 54, 51, 98, 57, 51, 49, 98, 100, 52, 55, 52, 49, 55, 97, 56, 49, 97, 53, 51, 56, 51, 50, 55, 97, 102, 57, 50, 55, 100, 97, 51, 101]).toArray }, Value.string { data := ([100, 100, 97, 102, 51, 53, 97, 49, 57, 51, 54, 49, 55, 97, 98, 97, 99, 99, 52, 49, 55, 51, 52, 57, 97, 101, 50, 48, 52, 49, 51, 49, 49, 50, 101, 54, 102, 97, 52, 101, 56, 57, 97, 57, 55, 101, 97, 50, 48, 97, 57, 101, 101, 101, 101, 54, 52, 98, 53, 53, 100, 51, 57, 97].append [50, 49, 57, 50, 57, 57, 50, 97, 50, 55, 52, 102, 99, 49, 97, 56, 51, 54, 98, 97, 51, 99, 50, 51, 97, 51, 102, 101, 101, 98, 98, 100, 52, 53, 52, 100, 52, 52, 50, 51, 54, 52, 51, 99, 101, 56, 48, 101, 50, 97, 57, 97, 99, 57, 52, 102, 97, 53, 52, 99, 97, 52, 57, 102]).toArray }, Value.string { data := ([56, 101, 57, 53, 57, 98, 55, 53, 100, 97, 101, 51, 49, 51, 100, 97, 56, 99, 102, 52, 102, 55, 50, 56, 49, 52, 102, 99, 49, 52, 51, 102, 56, 102, 55, 55, 55, 57, 99, 54, 101, 98, 57, 102, 55, 102, 97, 49, 55, 50, 57, 57, 97, 101, 97, 100, 98, 54, 56, 56, 57, 48, 49, 56].append [53, 48, 49, 100, 50, 56, 57, 101, 52, 57, 48, 48, 102, 55, 101, 52, 51, 51, 49, 98, 57, 57, 100, 101, 99, 52, 98, 53, 52, 51, 51, 97, 99, 55, 100, 51, 50, 57, 101, 101, 98, 54, 100, 100, 50, 54, 53, 52, 53, 101, 57, 54, 101, 53, 53, 98, 56, 55, 52, 98, 101, 57, 48, 57]).toArray }] : Array Value)[j]? = some (.string (strB (hexB D))) ∧ digest txt = D ∧ D.length = 64 ∧ txt.length ≤ 1000 := by
    match j, hj with
    | 0, _ => exact ⟨txt0, dig0, by kernel_rfl, by rw [← hex0]; kernel_rfl, dig0_is, rfl, by decide⟩
    | 1, _ => exact ⟨txt1, dig1, by kernel_rfl, by rw [← hex1]; kernel_rfl, dig1_is, rfl, by decide⟩
    | 2, _ => exact ⟨txt2, dig2, by kernel_rfl, by rw [← hex2]; kernel_rfl, dig2_is, rfl, by decide⟩
  obtain ⟨RL, hRL⟩ : ∃ R, (#[Value.string { data := #[] }, Value.string { data := #[97, 98, 99] }, Value.string { data := ([97, 98, 99, 100, 101, 102, 103, 104, 98, 99, 100, 101, 102, 103, 104, 105, 99, 100, 101, 102, 103, 104, 105, 106, 100, 101, 102, 103, 104, 105, 106, 107, 101, 102, 103, 104, 105, 106, 107, 108, 102, 103, 104, 105, 106, 107, 108, 109, 103, 104, 105, 106, 107, 108, 109, 110].append [104, 105, 106, 107, 108, 109, 110, 111, 105, 106, 107, 108, 109, 110, 111, 112, 106, 107, 108, 109, 110, 111, 112, 113, 107, 108, 109, 110, 111, 112, 113, 114, 108, 109, 110, 111, 112, 113, 114, 115, 109, 110, 111, 112, 113, 114, 115, 116, 110, 111, 112, 113, 114, 115, 116, 117]).toArray }] : Array Value) = R := ⟨_, rfl⟩
  obtain ⟨RV, hRV⟩ : ∃ R, (#[Value.string { data := ([99, 102, 56, 51, 101, 49, 51, 53, 55, 101, 101, 102, 98, 56, 98, 100, 102, 49, 53, 52, 50, 56, 53, 48, 100, 54, 54, 100, 56, 48, 48, 55, 100, 54, 50, 48, 101, 52, 48, 53, 48, 98, 53, 55, 49, 53, 100, 99, 56, 51, 102, 52, 97, 57, 50, 49, 100, 51, 54, 99, 101, 57, 99, 101].append [52, 55, 100, 48, 100, 49, 51, 99, 53, 100, 56, 53, 102, 50, 98, 48, 102, 102, 56, 51, 49, 56, 100, 50, 56, 55, 55, 101, 101, 99, 50, 102, 54, 51, 98, 57, 51, 49, 98, 100, 52, 55, 52, 49, 55, 97, 56, 49, 97, 53, 51, 56, 51, 50, 55, 97, 102, 57, 50, 55, 100, 97, 51, 101]).toArray }, Value.string { data := ([100, 100, 97, 102, 51, 53, 97, 49, 57, 51, 54, 49, 55, 97, 98, 97, 99, 99, 52, 49, 55, 51, 52, 57, 97, 101, 50, 48, 52, 49, 51, 49, 49, 50, 101, 54, 102, 97, 52, 101, 56, 57, 97, 57, 55, 101, 97, 50, 48, 97, 57, 101, 101, 101, 101, 54, 52, 98, 53, 53, 100, 51, 57, 97].append [50, 49, 57, 50, 57, 57, 50, 97, 50, 55, 52, 102, 99, 49, 97, 56, 51, 54, 98, 97, 51, 99, 50, 51, 97, 51, 102, 101, 101, 98, 98, 100, 52, 53, 52, 100, 52, 52, 50, 51, 54, 52, 51, 99, 101, 56, 48, 101, 50, 97, 57, 97, 99, 57, 52, 102, 97, 53, 52, 99, 97, 52, 57, 102]).toArray }, Value.string { data := ([56, 101, 57, 53, 57, 98, 55, 53, 100, 97, 101, 51, 49, 51, 100, 97, 56, 99, 102, 52, 102, 55, 50, 56, 49, 52, 102, 99, 49, 52, 51, 102, 56, 102, 55, 55, 55, 57, 99, 54, 101, 98, 57, 102, 55, 102, 97, 49, 55, 50, 57, 57, 97, 101, 97, 100, 98, 54, 56, 56, 57, 48, 49, 56].append [53, 48, 49, 100, 50, 56, 57, 101, 52, 57, 48, 48, 102, 55, 101, 52, 51, 51, 49, 98, 57, 57, 100, 101, 99, 52, 98, 53, 52, 51, 51, 97, 99, 55, 100, 51, 50, 57, 101, 101, 98, 54, 100, 100, 50, 54, 53, 52, 53, 101, 57, 54, 101, 53, 53, 98, 56, 55, 52, 98, 101, 57, 48, 57]).toArray }] : Array Value) = R := ⟨_, rfl⟩
  rw [hRL] at hL
  rw [hRV] at hV
  obtain ⟨n, hn⟩ : ∃ n, txt.length = n := ⟨_, rfl⟩
  have HN := Lib.hid hn
  have HOFG : Hid (∀ (W : World) (g : Nat) (A : Option Addr) (c : Nat), W.heap[g]? = some (.cells #[.slice A n c] 22 (0, 0)) → Bs W A txt → n ≤ c → Calls Try.prog 10 #[.slice (some ⟨g, 0, none⟩) 1 1] W fun e w' => e = .returned (.agg (arrB D)) ∧ Below W.heap.size W w') := Lib.hid fun W g A c h h1 h2 => by
    rw [← hD]; exact of1g_any C W g A txt n c hn h h1 h2 (by omega)
  have hz := fun u => zero_arr 24 (arrB (List.replicate 64 0)) 64 (by kernel_rfl) u
  obtain ⟨t0, ht0⟩ : ∃ t0, arrB (List.replicate 64 0) = t0 := ⟨_, rfl⟩
  have ht0s : t0.size = 64 := by rw [← ht0, arrB_size]; simp
  rw [ht0] at hz
  obtain ⟨DD, hDD⟩ : ∃ X, arrB D = X := ⟨_, rfl⟩
  have nD : DD.size = 64 := by rw [← hDD, arrB_size, hDl]
  have oD : DD.all (·.oneCell') = true := by rw [← hDD]; exact arrB_one _
  have iD : (Try.prog.info? 24).map (·.size) = some DD.size := by rw [nD]; kernel_rfl
  have sD : t0.size = DD.size := by rw [ht0s, nD]
  rw [hDD] at HOFG
  have HDD := Lib.hid hDD
  have HDL := Lib.hid hDl
  have hjI : (j : Int) < 3 := by omega
  have hj0 : ¬ (j : Int) < 0 := by omega
  have dj0 : decide ((j : Int) < 0) = false := decide_eq_false (by omega)
  have dj3 : decide ((3 : Int) ≤ (j : Int)) = false := decide_eq_false (by omega)
  clear hn hD hDl ht0 ht0s nD hDD C
  go_enter Try.func7, Try.ntmps7
  go_wp2_with fail
  with_reducible refine (HA.out _).mono ?_
  rintro e w1 ⟨rfl, hb1⟩
  have HB1 := Lib.hid hb1
  clear hb1 HA
  go_upto_region 6 with fail
  refine wp_at fun W3 hW3 => ?_
  have b1 : W3.heap[w1.heap.size]? = some (.cells RL 9 (0, 0)) := by
    rw [hW3, heap_alloc_old _ _ (by simp), ← hRL]
    exact (heap_alloc_new _ _).trans (by kernel_rfl)
  have b2 : W3.heap[w1.heap.size + 1]? = some (.cells RV 9 (0, 0)) := by
    have hs : ∀ o : Obj, (w1.alloc o).heap.size = w1.heap.size + 1 := fun o => World.size_alloc _ _
    rw [hW3, ← hs, ← hRV]
    exact (heap_alloc_new _ _).trans (by kernel_rfl)
  have hb3 : Below w1.heap.size w1 W3 := by rw [hW3]; exact below_alloc (below_alloc (Below.refl _ w1) _) _
  have hz3 : w1.heap.size + 1 < W3.heap.size := by rw [hW3]; simp
  clear hW3 hRL hRV
  have cl : W3.cell? ⟨w1.heap.size, j, none⟩ = some (.string (strB txt)) := by rw [cell_of_row _ _ _ _ _ _ b1, hL]
  have cv : W3.cell? ⟨w1.heap.size + 1, j, none⟩ = some (.string (strB (hexB D))) := by rw [cell_of_row _ _ _ _ _ _ b2, hV]
  obtain ⟨c, W4, hcv, hnc, hbs4, hb4, hz4⟩ := text_bytes W3 txt
  rw [HN.out] at hcv hnc
  have HC4 := Lib.hid (HOFG.out (W4.alloc (.cells #[.slice (some ⟨W3.heap.size, 0, none⟩) n c] 22)) W4.heap.size _ c (heap_alloc_new _ _) (bs_alloc hbs4 _) hnc)
  have HB4 : Hid (Below W3.heap.size W3 (W4.alloc (.cells #[.slice (some ⟨W3.heap.size, 0, none⟩) n c] 22))) := Lib.hid (below_alloc hb4 _)
  have HCV := Lib.hid cv
  have HB3 := Lib.hid hb3
  have HZ3 := Lib.hid hz3
  clear b1 b2 hb3 hz3 cv hL hV hbs4 hb4 hz4 HOFG hnc
  go_wp2_with (refine wpList_runsW (o := ⟨some 29, _, _, _, _, _⟩) rfl _ (run_conv_opW rfl rfl hcv) ?_)
  with_reducible refine HC4.out.mono ?_
  rintro e w5 ⟨rfl, hb5⟩
  have HB5 := Lib.hid (below_next HB4.out hb5)
  have h0 : (w5.alloc (.cells t0 24)).heap[w5.heap.size]? = some (.cells t0 24 (0, 0)) := heap_alloc_new _ _
  have HR6 : Hid (((w5.alloc (.cells t0 24)).setRow w5.heap.size DD).heap[w5.heap.size]? = some (.cells DD 24 (0, 0))) := Lib.hid (setRow_heap _ _ _ _ _ _ h0)
  have HB6 : Hid (Below W3.heap.size W3 ((w5.alloc (.cells t0 24)).setRow w5.heap.size DD)) := Lib.hid (below_setRow (below_alloc HB5.out _) HB5.out.size)
  clear hb5 HB4 HB5 HC4 hcv cl
  go_wp2_with (refine wpList_store_row rfl 24 (.tmp 6) (.tmp 31) rfl w5.heap.size DD rfl rfl 24 t0 h0 iD sD oD ?_)
  obtain ⟨W6, hW6⟩ : ∃ W, (w5.alloc (.cells t0 24)).setRow w5.heap.size DD = W := ⟨_, rfl⟩
  obtain ⟨g, hg⟩ : ∃ g, w5.heap.size = g := ⟨_, rfl⟩
  rw [hW6, hg] at HR6
  rw [hW6] at HB6
  rw [hW6, hg]
  clear hW6 hg h0
  go_loopw [7, 8] (fun t i wr => ∃ k : Nat, k ≤ 64 ∧ i = .int .i64 (k : Int) ∧ t = .string (strB (hexB (D.take k))) ∧ Hid (wr.heap[g]? = some (.cells DD 24 (0, 0))) ∧ Hid (Below W3.heap.size W3 wr)) (fun _ i _ => 64 - (intOf i).toNat)
  case atStart => exact ⟨0, by omega, rfl, by rw [List.take_zero]; rfl, HR6, HB6⟩
  case round =>
    clear HR6 HB6
    obtain ⟨k, hk, rfl, rfl, HR, HB⟩ := hrel
    by_cases hlt : k < 64
    · obtain ⟨y, hy⟩ : ∃ y, D.getD k 0 = y := ⟨_, rfl⟩
      have hck : wr.cell? ⟨g, k, none⟩ = some (.int .u8 (y.toNat : Int)) := by rw [cell_of_row _ _ _ _ _ _ HR.out, ← HDD.out, arrB_get _ _ (by rw [HDL.out]; exact hlt), hy]
      have hsn : hexB (D.take (k + 1)) = hexB (D.take k) ++ [hexD (y.toNat / 16)] ++ [hexD (y.toNat % 16)] := by
        rw [take_snoc D k (by rw [HDL.out]; exact hlt), hexB_snoc, hy]
      have hyl := y.toNat_lt
      have htl2 : (hexB (D.take k)).length ≤ 128 := by rw [hexB_len, List.length_take]; omega
      obtain ⟨hi, hhi⟩ : ∃ h, y.toNat / 16 = h := ⟨_, rfl⟩
      obtain ⟨lo, hlo⟩ : ∃ h, y.toNat % 16 = h := ⟨_, rfl⟩
      rw [hhi, hlo] at hsn
      have hhl : hi < 16 := by omega
      have hll : lo < 16 := by omega
      have c1 := cut_digits hi hhl .u8
      have c2 := cut_digits lo hll .u8
      have a1 := add_str (hexB (D.take k)) [hexD hi] (by simp; omega)
      have a2 := add_str (hexB (D.take k) ++ [hexD hi]) [hexD lo] (by simp; omega)
      rw [← hsn] at a2
      obtain ⟨T2, hT2⟩ : ∃ T, strB (hexB (D.take (k + 1))) = T := ⟨_, rfl⟩
      rw [hT2] at a2
      have HT2 := Lib.hid hT2
      clear hT2
      generalize strB (hexB (D.take k) ++ [hexD hi]) = T1 at *
      generalize strB (hexB (D.take k)) = T0 at *
      generalize strB [hexD hi] = s1 at *
      generalize strB [hexD lo] = s2 at *
      have f1 : (y.toNat : Int) / 16 = (hi : Int) := by omega
      have f2 : IntKind.u8.wrap ((hi : Int) + 1) = (hi : Int) + 1 := by rw [IntKind.wrap_u8]; omega
      have f3 : bits .and .u8 (y.toNat : Int) 15 = (lo : Int) := by
        have h := u8_and' y 15
        rw [show ((15 : UInt8).toNat : Int) = 15 from rfl] at h
        rw [h, UInt8.toNat_and, show (15 : UInt8).toNat = 2 ^ 4 - 1 from rfl, Nat.and_two_pow_sub_one_eq_mod, ← hlo]
      have f4 : IntKind.u8.wrap ((lo : Int) + 1) = (lo : Int) + 1 := by rw [IntKind.wrap_u8]; omega
      have p1 : 0 ≤ (k : Int) := by omega
      have p2 : (k : Int) < 64 := by omega
      generalize y.toNat = Y at *
      have HR2 : Hid (wr.drew.heap[g]? = some (.cells DD 24 (0, 0))) := Lib.hid HR.out
      have HB2 : Hid (Below W3.heap.size W3 wr.drew) := Lib.hid HB.out.drew
      clear hsn hhi hlo hy htl2 HR HB
      go_wp2_with fail
      refine wp_region_still_tail 23 (by kernel_rfl) (by kernel_rfl) ?_
      simp only [List.take_succ_cons, List.take_zero, List.drop_succ_cons, List.drop_zero]
      iterate 23 still_step
      refine wpStill_nil ?_
      go_wp2_with fail
      go_roundw
      case rel => exact ⟨k + 1, by omega, by go_num, by rw [HT2.out], HR2, HB2⟩
      case measure => simp [intOf]; omega
    · obtain rfl : k = 64 := by omega
      have hcw : wr.cell? ⟨w1.heap.size + 1, j, none⟩ = some (.string (strB (hexB D))) := by rw [HB.out.cell (by show w1.heap.size + 1 < W3.heap.size; exact HZ3.out)]; exact HCV.out
      rw [show D.take 64 = D from List.take_of_length_le (by rw [HDL.out]; omega)]
      generalize strB (hexB D) = T at *
      have HBF := Lib.hid (below_next HB1.out (HB3.out.trans (HB.out.mono HB3.out.size)))
      clear HB HR HCV
      go_wp2_with (refine wpList_runsG (o := ⟨some 64, _, _, _, _, _⟩) rfl (.bool true) (run_eql_str rfl rfl rfl) ?_)
      go_ret
      exact ⟨rfl, HBF.out⟩

theorem law8Known {H : HashP} (C : ShaC H) (i : Int) (w : World) :
    Calls Try.prog 7 #[.int .i64 i] w fun e w' => e = .returned (.bool true) ∧ Below w.heap.size w w' := by
  by_cases h0 : i < 0
  · have HA := Lib.hid (fun W => alive8_any C W)
    have d0 : decide (i < 0) = true := decide_eq_true h0
    clear h0
    go_enter Try.func7, Try.ntmps7
    go_wp2_with fail
    with_reducible refine (HA.out _).mono ?_
    rintro e w1 ⟨rfl, hb1⟩
    have HB := Lib.hid (fun (o o2 : Obj) => below_alloc (below_alloc hb1 o) o2)
    go_wp2_with fail
    go_ret
    exact ⟨rfl, HB.out _ _⟩
  · by_cases h3 : 3 ≤ i
    · have HA := Lib.hid (fun W => alive8_any C W)
      have d0 : decide (i < 0) = false := decide_eq_false h0
      have d3 : decide (3 ≤ i) = true := decide_eq_true h3
      clear h0 h3
      go_enter Try.func7, Try.ntmps7
      go_wp2_with fail
      with_reducible refine (HA.out _).mono ?_
      rintro e w1 ⟨rfl, hb1⟩
      have HB := Lib.hid (fun (o o2 : Obj) => below_alloc (below_alloc hb1 o) o2)
      go_wp2_with fail
      go_ret
      exact ⟨rfl, HB.out _ _⟩
    · obtain ⟨j, rfl⟩ : ∃ j : Nat, i = (j : Int) := ⟨i.toNat, by omega⟩
      exact law8KnownIn C j (by omega) w
end Go.Proofs.Ytbkcglfdliicpaa

