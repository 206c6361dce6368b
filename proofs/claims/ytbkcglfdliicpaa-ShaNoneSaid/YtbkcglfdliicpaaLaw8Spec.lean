/- What layer 8's walks ask of package sha512; the document's example. -/
import Derived.Test.YtbkcglfdliicpaaGsha
import Derived.Test.YtbkcglfdliicpaaGsha2
import Derived.Test.YtbkcglfdliicpaaGpre2
namespace Go.Proofs.Ytbkcglfdliicpaa
open Go.RowKit
set_option linter.unusedVariables false
set_option maxRecDepth 100000

/-- a row of byte slices: where each lies, what it reads, its room -/
abbrev BRow := List (Option Addr × List UInt8 × Nat)
structure RowAt (W : World) (P : Option Addr) (rows : BRow) : Prop where
  cell : 0 < rows.length → ∃ b o, P = some ⟨b, o, none⟩ ∧ ∀ i r, rows[i]? = some r → W.cell? ⟨b, o + i, none⟩ = some (.slice r.1 r.2.1.length r.2.2)
  row : ∀ r ∈ rows, Bs W r.1 r.2.1 ∧ r.2.1.length ≤ r.2.2
def rowsB (rows : BRow) : List UInt8 := rows.flatMap fun r => r.2.1

abbrev HashP := World → Nat → Sh → (Nat → Prop) → Prop
/-- package sha512, function by function, over whatever its Hash is in memory: 'H W g h F': at block g lies a Hash in state h, within the blocks F -/
structure ShaC (H : HashP) : Prop where
  ok : ∀ {W g h F}, H W g h F → h.ok
  lt : ∀ {W g h F}, H W g h F → ∀ j, F j → j < W.heap.size
  keep : ∀ {W W' g h F} (Q : Nat → Prop), H W g h F → Only Q W W' → (∀ j, F j → ¬ Q j) → H W' g h F
  new : ∀ W : World, Calls Try.prog 12 #[] W fun e w' => ∃ g F, e = .returned (.pointer (some ⟨g, 0, none⟩)) ∧ H w' g Sh.nil F ∧ (∀ j, F j → W.heap.size ≤ j) ∧ Below W.heap.size W w'
  write : ∀ {W g h F} (A : Option Addr) (l : List UInt8) (c : Nat), H W g h F → Bs W A l → l.length ≤ c → (∀ k, 0 < l.length → At A k → ¬ F k) → h.n ≤ 1152921504606847976 → l.length ≤ 10000 →
    Calls Try.prog 19 #[.pointer (some ⟨g, 0, none⟩), .slice A l.length c] W fun e w' => e = .returned (.tuple #[]) ∧ ∃ F', H w' g (h.add l) F' ∧ (∀ j, F' j → F j ∨ W.heap.size ≤ j) ∧ Only F W w'
  count : ∀ {W g h F}, H W g h F → h.n ≤ 1152921504606866976 → Calls Try.prog 15 #[.pointer (some ⟨g, 0, none⟩)] W fun e w' => e = .returned (.int .i64 (h.n : Int)) ∧ Below W.heap.size W w'
  sum : ∀ {W g h F}, H W g h F → h.n ≤ 1152921504606866976 → Calls Try.prog 13 #[.pointer (some ⟨g, 0, none⟩)] W fun e w' => e = .returned (.agg (arrB h.sum)) ∧ Below W.heap.size W w'
  mid : ∀ {W g h F}, H W g h F → h.n ≤ 1152921504606866976 → Calls Try.prog 16 #[.pointer (some ⟨g, 0, none⟩)] W (RetOb 5 W h.mid)
  load : ∀ (W : World) (A : Option Addr) (l : List UInt8) (c : Nat), Bs W A l → l.length ≤ c → mayB l = true →
    Calls Try.prog 17 #[.slice A l.length c] W fun e w' => ∃ g F, e = .returned (.tuple #[.pointer (some ⟨g, 0, none⟩), .bool true]) ∧ H w' g (loadB l) F ∧ (∀ j, F j → W.heap.size ≤ j) ∧ Below W.heap.size W w'
  loadNo : ∀ (W : World) (A : Option Addr) (l : List UInt8) (c : Nat), Bs W A l → l.length ≤ c → l.length ≤ 100000 → mayB l = false →
    Calls Try.prog 17 #[.slice A l.length c] W fun e w' => e = .returned (.tuple #[.pointer none, .bool false]) ∧ Below W.heap.size W w'
  of : ∀ (W : World) (P : Option Addr) (rows : BRow) (c : Nat), RowAt W P rows → rows.length ≤ c → rows.length ≤ 10 → (rowsB rows).length ≤ 10000 →
    Calls Try.prog 10 #[.slice P rows.length c] W fun e w' => e = .returned (.agg (arrB (digest (rowsB rows)))) ∧ Below W.heap.size W w'
  zero : ∀ (W : World) (Z : Array Value), (zeroValue 52).run Try.prog W = .ok (.agg Z) W → H (W.alloc (.cells Z 52)) W.heap.size Sh.nil (fun j => j = W.heap.size)
  writeNo : ∀ (W : World) (A : Option Addr) (l : List UInt8) (c : Nat), Bs W A l → Calls Try.prog 19 #[.pointer none, .slice A l.length c] W fun e w' => e = .returned (.tuple #[]) ∧ Below W.heap.size W w'
  countNo : ∀ W : World, Calls Try.prog 15 #[.pointer none] W fun e w' => e = .returned (.int .i64 0) ∧ Below W.heap.size W w'
  sumNo : ∀ W : World, Calls Try.prog 13 #[.pointer none] W fun e w' => e = .returned (.agg (arrB (digest []))) ∧ Below W.heap.size W w'
  midNo : ∀ W : World, Calls Try.prog 16 #[.pointer none] W (RetOb 5 W Sh.nil.mid)
theorem ShaC.below {H : HashP} (C : ShaC H) {W W' : World} {g : Nat} {h : Sh} {F : Nat → Prop} (hh : H W g h F) (hb : Below W.heap.size W W') : H W' g h F :=
  C.keep (fun _ => False) hh (Only.of_below hb) (fun _ _ h => h)

theorem rowAt_nil (W : World) (P : Option Addr) : RowAt W P [] := ⟨fun h => absurd h (by simp), fun r h => by cases h⟩

theorem digest_len (l : List UInt8) : (digest l).length = 64 := bytesS_len _

set_option maxHeartbeats 800000 in
theorem alive8_any {H : HashP} (C : ShaC H) (w : World) : Calls Try.prog 9 #[] w fun e w' => e = .returned (.bool true) ∧ Below w.heap.size w w' := by
  have HOF : Hid (∀ W : World, Calls Try.prog 10 #[.slice none 0 0] W fun e w' => e = .returned (.agg (arrB dig0)) ∧ Below W.heap.size W w') := Lib.hid fun W => by
    have h := C.of W none [] 0 (rowAt_nil _ _) (by simp) (by simp) (by simp [rowsB])
    rw [show digest (rowsB []) = dig0 from dig0_is] at h
    exact h
  have hz := fun u => zero_arr 24 (arrB (List.replicate 64 0)) 64 (by kernel_rfl) u
  obtain ⟨t0, ht0⟩ : ∃ t0, arrB (List.replicate 64 0) = t0 := ⟨_, rfl⟩
  have ht0s : t0.size = 64 := by rw [← ht0, arrB_size]; simp
  rw [ht0] at hz
  obtain ⟨D, hD⟩ : ∃ D, arrB dig0 = D := ⟨_, rfl⟩
  have nD : D.size = 64 := by rw [← hD, arrB_size]; rfl
  have oD : D.all (·.oneCell') = true := by rw [← hD]; exact arrB_one _
  have iD : (Try.prog.info? 24).map (·.size) = some D.size := by rw [nD]; kernel_rfl
  have sD : t0.size = D.size := by rw [ht0s, nD]
  have d0 : D[0]? = some (.int .u8 207) := by rw [← hD]; rfl
  have d1 : D[1]? = some (.int .u8 131) := by rw [← hD]; rfl
  have d2 : D[2]? = some (.int .u8 225) := by rw [← hD]; rfl
  have d3 : D[3]? = some (.int .u8 53) := by rw [← hD]; rfl
  rw [hD] at HOF
  clear hD ht0 ht0s nD
  go_enter Try.func9, Try.ntmps9
  go_wp2_with fail
  with_reducible refine (HOF.out _).mono ?_
  rintro e w1 ⟨rfl, hb1⟩
  have h0 : (w1.alloc (.cells t0 24)).heap[w1.heap.size]? = some (.cells t0 24 (0, 0)) := heap_alloc_new _ _
  have h1 : ((w1.alloc (.cells t0 24)).setRow w1.heap.size D).heap[w1.heap.size]? = some (.cells D 24 (0, 0)) := setRow_heap _ _ _ _ _ _ h0
  have c0 : ((w1.alloc (.cells t0 24)).setRow w1.heap.size D).cell? ⟨w1.heap.size, 0, none⟩ = some (.int .u8 207) := by rw [cell_of_row _ _ _ _ _ _ h1, d0]
  have c1 : ((w1.alloc (.cells t0 24)).setRow w1.heap.size D).cell? ⟨w1.heap.size, 1, none⟩ = some (.int .u8 131) := by rw [cell_of_row _ _ _ _ _ _ h1, d1]
  have c2 : ((w1.alloc (.cells t0 24)).setRow w1.heap.size D).cell? ⟨w1.heap.size, 2, none⟩ = some (.int .u8 225) := by rw [cell_of_row _ _ _ _ _ _ h1, d2]
  have c3 : ((w1.alloc (.cells t0 24)).setRow w1.heap.size D).cell? ⟨w1.heap.size, 3, none⟩ = some (.int .u8 53) := by rw [cell_of_row _ _ _ _ _ _ h1, d3]
  have HB := Lib.hid (below_setRow (cs := D) (below_alloc hb1 (.cells t0 24)) hb1.size)
  clear hb1 HOF d0 d1 d2 d3
  go_wp2_with (refine wpList_store_row rfl 24 (.tmp 1) (.tmp 2) rfl w1.heap.size D rfl rfl 24 t0 h0 iD sD oD ?_)
  go_ret
  exact ⟨rfl, HB.out⟩
end Go.Proofs.Ytbkcglfdliicpaa

