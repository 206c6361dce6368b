/- Rows of calls that came in, structs of two integers and one more, as they lie in memory. -/
import Derived.Test.YtlbkpmcccipfhaaGbase
namespace Go.Proofs.Ytlbkpmcccipfhaa
open Go.RowKit
set_option linter.unusedVariables false
set_option maxRecDepth 100000

/-- a call as it lies in a row -/
structure ActID where
  x : Int
  y : Int
  z : Int
instance : Inhabited ActID := ⟨⟨0, 0, 0⟩⟩
structure ActIAt (w : World) (g o : Nat) (a : ActID) : Prop where
  x : w.cell? ⟨g, o, none⟩ = some (.int .i64 a.x)
  y : w.cell? ⟨g, o + 1, none⟩ = some (.int .i64 a.y)
  z : w.cell? ⟨g, o + 2, none⟩ = some (.int .i64 a.z)
  x1 : -9223372036854775808 ≤ a.x
  x2 : a.x ≤ 9223372036854775807
  y1 : -9223372036854775808 ≤ a.y
  y2 : a.y ≤ 9223372036854775807
  z1 : -9223372036854775808 ≤ a.z
  z2 : a.z ≤ 9223372036854775807
def ActIs (w : World) (A0 : Option Addr) (L : List ActID) : Prop :=
  0 < L.length → ∃ g o, A0 = some ⟨g, o, none⟩ ∧ ∀ i (h : i < L.length), ActIAt w g (o + i * 3) L[i]
theorem ActIAt.only {w w' : World} {g o : Nat} {a : ActID} {F : Nat → Prop} (h : ActIAt w g o a) (ho : Only F w w') (hg : ¬ F g) : ActIAt w' g o a := by
  have hl : g < w.heap.size := World.block_lt_of_cell? w _ h.x
  have e := ho.block g hl hg
  exact ⟨by rw [World.cell?_of_block (a := ⟨g, o, none⟩) e]; exact h.x, by rw [World.cell?_of_block (a := ⟨g, o + 1, none⟩) e]; exact h.y, by rw [World.cell?_of_block (a := ⟨g, o + 2, none⟩) e]; exact h.z, h.x1, h.x2, h.y1, h.y2, h.z1, h.z2⟩
theorem ActIAt.lt {w : World} {g o : Nat} {a : ActID} (h : ActIAt w g o a) : g < w.heap.size := World.block_lt_of_cell? w _ h.x
theorem ActIs.only {w w' : World} {A0 : Option Addr} {L : List ActID} {F : Nat → Prop} (h : ActIs w A0 L) (ho : Only F w w') (hg : ∀ k, 0 < L.length → At A0 k → ¬ F k) : ActIs w' A0 L := fun hl => by
  obtain ⟨g, o, e, ha⟩ := h hl
  exact ⟨g, o, e, fun i hi => (ha i hi).only ho (hg g hl ⟨_, e, rfl⟩)⟩
theorem ActIs.lt {w : World} {A0 : Option Addr} {L : List ActID} (h : ActIs w A0 L) {k : Nat} (hl : 0 < L.length) (hk : At A0 k) : k < w.heap.size := by
  obtain ⟨g, o, e, ha⟩ := h hl
  obtain ⟨a, ea, rfl⟩ := hk
  rw [e] at ea
  injection ea with ea
  subst ea
  exact (ha 0 hl).lt
/-- a call as it lies in a row -/
structure ActBD where
  x : Int
  y : Int
  z : UInt8
instance : Inhabited ActBD := ⟨⟨0, 0, 0⟩⟩
structure ActBAt (w : World) (g o : Nat) (a : ActBD) : Prop where
  x : w.cell? ⟨g, o, none⟩ = some (.int .i64 a.x)
  y : w.cell? ⟨g, o + 1, none⟩ = some (.int .i64 a.y)
  z : w.cell? ⟨g, o + 2, none⟩ = some (.int .u8 (a.z.toNat : Int))
  x1 : -9223372036854775808 ≤ a.x
  x2 : a.x ≤ 9223372036854775807
  y1 : -9223372036854775808 ≤ a.y
  y2 : a.y ≤ 9223372036854775807
def ActBs (w : World) (A0 : Option Addr) (L : List ActBD) : Prop :=
  0 < L.length → ∃ g o, A0 = some ⟨g, o, none⟩ ∧ ∀ i (h : i < L.length), ActBAt w g (o + i * 3) L[i]
theorem ActBAt.only {w w' : World} {g o : Nat} {a : ActBD} {F : Nat → Prop} (h : ActBAt w g o a) (ho : Only F w w') (hg : ¬ F g) : ActBAt w' g o a := by
  have hl : g < w.heap.size := World.block_lt_of_cell? w _ h.x
  have e := ho.block g hl hg
  exact ⟨by rw [World.cell?_of_block (a := ⟨g, o, none⟩) e]; exact h.x, by rw [World.cell?_of_block (a := ⟨g, o + 1, none⟩) e]; exact h.y, by rw [World.cell?_of_block (a := ⟨g, o + 2, none⟩) e]; exact h.z, h.x1, h.x2, h.y1, h.y2⟩
theorem ActBAt.lt {w : World} {g o : Nat} {a : ActBD} (h : ActBAt w g o a) : g < w.heap.size := World.block_lt_of_cell? w _ h.x
theorem ActBs.only {w w' : World} {A0 : Option Addr} {L : List ActBD} {F : Nat → Prop} (h : ActBs w A0 L) (ho : Only F w w') (hg : ∀ k, 0 < L.length → At A0 k → ¬ F k) : ActBs w' A0 L := fun hl => by
  obtain ⟨g, o, e, ha⟩ := h hl
  exact ⟨g, o, e, fun i hi => (ha i hi).only ho (hg g hl ⟨_, e, rfl⟩)⟩
theorem ActBs.lt {w : World} {A0 : Option Addr} {L : List ActBD} (h : ActBs w A0 L) {k : Nat} (hl : 0 < L.length) (hk : At A0 k) : k < w.heap.size := by
  obtain ⟨g, o, e, ha⟩ := h hl
  obtain ⟨a, ea, rfl⟩ := hk
  rw [e] at ea
  injection ea with ea
  subst ea
  exact (ha 0 hl).lt
end Go.Proofs.Ytlbkpmcccipfhaa

