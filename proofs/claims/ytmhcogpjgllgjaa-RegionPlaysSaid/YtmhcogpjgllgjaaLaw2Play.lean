/- Both flashes from New on, through a row of calls. -/
import Derived.Test.YtmhcogpjgllgjaaLaw2Few
import Derived.Test.YtmhcogpjgllgjaaGnor
namespace Go.Proofs.Ytmhcogpjgllgjaa
open Go.RowKit
set_option linter.unusedVariables false

def dnw (n : Nat) : Dl := ⟨blanks n, List.replicate n 0, 0, false, false, 0, []⟩
def rnw (n : Nat) : Fl := ⟨blanks n, List.replicate n 0, 0, -1, [], false⟩
theorem dnw_ok (n : Nat) (h : n ≤ 65536) : DlOk (dnw n) :=
  ⟨by show (blanks n).length = 1024 * (List.replicate n (0 : Int)).length; rw [blanks_len, List.length_replicate], by show (List.replicate n (0 : Int)).length ≤ _; rw [List.length_replicate]; exact h,
    fun x hx => by
      have hx' : x ∈ List.replicate n (0 : Int) := hx
      have := (List.mem_replicate.1 hx').2
      omega, by show (0 : Int) ≤ 0; omega, by show (0 : Int) ≤ _; omega, by show (0 : Int) ≤ 0; omega, by show (0 : Int) ≤ _; omega, by show ([] : List UInt8).length ≤ _; simp⟩
theorem rnw_ok (n : Nat) (h : n ≤ 65536) : FlOk (rnw n) :=
  ⟨by show (blanks n).length = 1024 * (List.replicate n (0 : Int)).length; rw [blanks_len, List.length_replicate], by show (List.replicate n (0 : Int)).length ≤ _; rw [List.length_replicate]; exact h,
    fun x hx => by
      have hx' : x ∈ List.replicate n (0 : Int) := hx
      have := (List.mem_replicate.1 hx').2
      omega, by show (0 : Int) ≤ 0; omega, by show (0 : Int) ≤ _; omega, by show (-1 : Int) ≤ -1; omega, by show (-1 : Int) ≤ _; omega, by show ([] : List UInt8).length ≤ _; simp⟩
theorem sim_new (n : Nat) : Sim (dnw n) (rnw n) := ⟨rfl, rfl, rfl, rfl, .inl ⟨rfl, by show (-1 : Int) < 0; omega⟩⟩

/-- behind k calls -/
def Play (N : Nat) (w0 : World) (p : Ad) (n k : Nat) (wr : World) : Prop :=
  ∃ d f, Pair N wr p d f ∧ Sim d f ∧ DlOk d ∧ FlOk f ∧ d.steps ≤ 1100 * (k : Int) ∧ (∀ x ∈ d.worn, x ≤ (k : Int)) ∧ d.worn.length = n ∧ Below w0.heap.size w0 wr ∧ ∀ j, AdF p j → w0.heap.size ≤ j

theorem play_new {w w2 w3 : World} {g gB gW cB cW h hB hW kB kW n : Nat} (hn : n ≤ 65536) (hd : ∀ N, DevFl w2 g gB gW cB cW N (dnw n)) (h1 : w.heap.size ≤ g) (h2 : w.heap.size ≤ gB) (h3 : w.heap.size ≤ gW) (hb2 : Below w.heap.size w w2)
    (hr : ∀ N, RefFl w3 h hB hW kB kW N (rnw n)) (q1 : w2.heap.size ≤ h) (q2 : w2.heap.size ≤ hB) (q3 : w2.heap.size ≤ hW) (hb3 : Below w2.heap.size w2 w3) {w0 : World} (hb0 : Below w0.heap.size w0 w) :
    Play w3.heap.size w0 ⟨g, gB, gW, cB, cW, h, hB, hW, kB, kW⟩ n 0 w3 := by
  obtain ⟨z1, z2, z3⟩ := (hd 0).blk
  obtain ⟨y1, y2, y3⟩ := (hr 0).blk
  have := hb3.size
  have := hb0.size
  refine ⟨dnw n, rnw n, ⟨(hd _).below hb3, hr _, ?_, ?_, Nat.le_refl _⟩, sim_new n, dnw_ok n hn, rnw_ok n hn, by show (0 : Int) ≤ _; omega, ?_, by show (List.replicate n (0 : Int)).length = n; rw [List.length_replicate], below_on (below_on hb0 hb2) hb3, ?_⟩
  · rintro j ((rfl | rfl | rfl) | (rfl | rfl | rfl)) <;> (try dsimp only) <;> omega
  · rintro j (rfl | rfl | rfl) (e | e | e) <;> simp at e <;> omega
  · intro x hx
    have hx' : x ∈ List.replicate n (0 : Int) := hx
    have := (List.mem_replicate.1 hx').2
    omega
  · rintro j ((rfl | rfl | rfl) | (rfl | rfl | rfl)) <;> (try dsimp only) <;> omega

theorem play_in {N : Nat} {w0 wr : World} {p : Ad} {n k : Nat} (h : Play N w0 p n k wr) (hk : k ≤ 1000) (hn : 0 < n) {a : ActD} {g o : Nat} (ha : ActAt w0 g o a) (hl : a.b.length ≤ 1100) :
    ∃ d f, DoIn N wr p d f a.t a.n a.A a.b a.c ∧ (∀ e w', DoPost N wr p d e w' → e = .returned (.bool true) ∧ Play N w0 p n (k + 1) w') := by
  obtain ⟨d, f, hp, hs, ok, rok, hst, hwn, hwl, hb, hlo⟩ := h
  refine ⟨d, f, ⟨hp, hs, ok, rok, ha.b.below hb, ?_, ha.c, hl, by omega, fun x hx => by have := hwn x hx; omega, by omega, ha.t1, ha.t2, ha.n1, ha.n2⟩, ?_⟩
  · intro hpos j hj hf
    obtain ⟨b, o', e, hc⟩ := ha.b hpos
    obtain ⟨a', e', rfl⟩ := hj
    rw [e] at e'
    injection e' with e'
    subst e'
    have := World.block_lt_of_cell? w0 _ (hc 0 hpos)
    have := hlo _ hf
    simp at *
    omega
  · rintro e w' ⟨he, d', f', hp', hs', hnum, rok', ho⟩
    refine ⟨he, d', f', hp', hs', hnum.ok, rok', by have := hnum.steps; omega, fun x hx => by have := hnum.worn k hwn x hx; omega, hnum.len.trans hwl, hb.trans (ho.below hb.size (fun j hj hf => by have := hlo j hf; omega)), hlo⟩

/-- what is known while sectors are erased with nothing armed -/
structure Calm (d : Dl) (i : Nat) : Prop where
  ok : DlOk d
  off : d.off = false
  armed : d.armed = false
  wl : d.worn.length = 2
  steps : d.steps ≤ 40000 + (i : Int)
  worn : ∀ x ∈ d.worn, x ≤ 40 + (i : Int)
  blank : ∀ j, j < 2048 → (j < 1024 ∧ 1 ≤ i ∨ 1024 ≤ j ∧ 2 ≤ i) → d.b.getD j 0 = 255
theorem calm_erase {d : Dl} {i : Nat} (h : Calm d i) (hi : i ≤ 20) : ∃ d', deraseOf d ((i % 2 : Nat) : Int) = (0, d') ∧ Calm d' (i + 1) := by
  have hn := deraseOf_num d h.ok ((i % 2 : Nat) : Int) (by have := h.steps; omega) (fun x hx => by have := h.worn x hx; omega)
  have hb := h.ok.len
  rw [h.wl] at hb
  have e : deraseOf d ((i % 2 : Nat) : Int) = (0, dwithB ⟨d.b, d.worn.set (i % 2) (d.worn.getD (i % 2) 0 + 1), d.steps + 1, d.off, d.armed, d.after, d.pick⟩ (laid d.b (1024 * (i % 2)) (List.replicate 1024 255))) := by
    unfold deraseOf
    rw [if_neg (by rw [h.off]; simp), if_pos (by rw [h.wl]; omega), Int.toNat_natCast]
    unfold deraseIn
    rw [dstepOf_calm' _ (show (dwithW d (d.worn.set (i % 2) (d.worn.getD (i % 2) 0 + 1))).armed = false from h.armed)]
    rfl
  rw [e] at hn
  refine ⟨_, e, hn.ok, h.off, h.armed, hn.len.trans h.wl, by show d.steps + 1 ≤ 40000 + ((i + 1 : Nat) : Int); have := h.steps; omega, fun x hx => by have := hn.worn _ h.worn x hx; omega, fun j hj hc => ?_⟩
  show (laid d.b (1024 * (i % 2)) (List.replicate 1024 255)).getD j 0 = 255
  rw [laid_get (by omega), List.length_replicate]
  by_cases hin : 1024 * (i % 2) ≤ j ∧ j < 1024 * (i % 2) + 1024
  · rw [if_pos hin, getD_rep _ _ _ (by omega)]
  · rw [if_neg hin]
    exact h.blank j hj (by omega)
theorem calm_blank {d : Dl} {i : Nat} (h : Calm d i) (hi : 2 ≤ i) : d.b.all (· == 255) = true := by
  rw [List.all_eq_true]
  intro x hx
  obtain ⟨j, hj, rfl⟩ := List.getElem_of_mem hx
  have hb := h.ok.len
  rw [h.wl] at hb
  have := h.blank j (by omega) (by omega)
  simp [List.getD, hj] at this
  simp [this]

end Go.Proofs.Ytmhcogpjgllgjaa

