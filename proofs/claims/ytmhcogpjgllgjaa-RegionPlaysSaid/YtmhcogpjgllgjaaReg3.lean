/- A region of either flash, or none, over both flashes in one memory. -/
import Derived.Test.YtmhcogpjgllgjaaLaw3None
import Derived.Test.YtmhcogpjgllgjaaRefRegion2
namespace Go.Proofs.Ytmhcogpjgllgjaa
open Go.RowKit
set_option linter.unusedVariables false

/-- the three fields of a region's value -/
def rgQ (g : Nat) : Option (Nat × Nat) → Value
  | none => .pointer none
  | some _ => .pointer (some ⟨g, 0, none⟩)
def rgX : Option (Nat × Nat) → Value
  | none => .int .i64 0
  | some r => .int .i64 (r.1 : Int)
def rgY : Option (Nat × Nat) → Value
  | none => .int .i64 0
  | some r => .int .i64 (r.2 : Int)
def RgOk (len : Nat) : Option (Nat × Nat) → Prop
  | none => True
  | some r => r.1 ≤ 65536 ∧ r.2 ≤ 65536 ∧ (r.1 + r.2) * 1024 ≤ len

def odRead (d : Dl) (o : Option (Nat × Nat)) (t n : Int) : List UInt8 × Int := match o with | none => ([], 2) | some r => dgRead d r.1 r.2 t n
def odProg (d : Dl) (o : Option (Nat × Nat)) (t : Int) (m : List UInt8) : Int × Dl := match o with | none => (2, d) | some r => dgProg d r.1 r.2 t m
def odErase (d : Dl) (o : Option (Nat × Nat)) (s : Int) : Int × Dl := match o with | none => (2, d) | some r => dgErase d r.1 r.2 s
def odBlank (d : Dl) (o : Option (Nat × Nat)) (s : Int) : Bool × Int := match o with | none => (false, 2) | some r => dgBlank d r.1 r.2 s
def orRead (d : Fl) (o : Option (Nat × Nat)) (t n : Int) : List UInt8 × Int := match o with | none => ([], 2) | some r => rgRead d r.1 r.2 t n
def orProg (d : Fl) (o : Option (Nat × Nat)) (t : Int) (m : List UInt8) : Int × Fl := match o with | none => (2, d) | some r => rgProg d r.1 r.2 t m
def orErase (d : Fl) (o : Option (Nat × Nat)) (s : Int) : Int × Fl := match o with | none => (2, d) | some r => rgErase d r.1 r.2 s
def orBlank (d : Fl) (o : Option (Nat × Nat)) (s : Int) : Bool × Int := match o with | none => (false, 2) | some r => rgBlank d r.1 r.2 s

section
variable {N : Nat} {w w' : World} {p : Ad} {d d' : Dl} {f f' : Fl} {o : Option (Nat × Nat)}

theorem sim_oread (s : Sim d f) (t n : Int) : odRead d o t n = orRead f o t n := by
  cases o with
  | none => rfl
  | some r => exact sim3_read s _ _ _ _
theorem sim_oprog (s : Sim d f) (ok : DlOk d) (rok : FlOk f) (t : Int) (m : List UInt8) (hs : f.steps + m.length < 4611686018427387904) :
    (odProg d o t m).1 = (orProg f o t m).1 ∧ Sim (odProg d o t m).2 (orProg f o t m).2 := by
  cases o with
  | none => exact ⟨rfl, s⟩
  | some r => exact sim3_prog s ok rok _ _ _ _ hs
theorem sim_oerase (s : Sim d f) (ok : DlOk d) (rok : FlOk f) (x : Int) (hs : f.steps + 1 < 4611686018427387904) :
    (odErase d o x).1 = (orErase f o x).1 ∧ Sim (odErase d o x).2 (orErase f o x).2 := by
  cases o with
  | none => exact ⟨rfl, s⟩
  | some r => exact sim3_erase s ok rok _ _ _ hs
theorem sim_oblank (s : Sim d f) (x : Int) : odBlank d o x = orBlank f o x := by
  cases o with
  | none => rfl
  | some r => exact sim3_blank s _ _ _
theorem odProg_num (ok : DlOk d) (t : Int) (m : List UInt8) (hst : d.steps + m.length ≤ 4611686018427387904) : NumFact d (odProg d o t m).2 m.length := by
  cases o with
  | none => exact .same ok (by omega)
  | some r => exact dgProg_num d ok _ _ _ _ hst
theorem orProg_ok (ok : FlOk f) (t : Int) (m : List UInt8) (hst : f.steps + m.length ≤ 4611686018427387904) : FlOk (orProg f o t m).2 := by
  cases o with
  | none => exact ok
  | some r => exact rgProg_ok f ok _ _ _ _ hst
theorem odErase_num (ok : DlOk d) (s : Int) (hst : d.steps + 1 ≤ 4611686018427387904) (hw : ∀ x ∈ d.worn, x + 1 ≤ 4611686018427387904) : NumFact d (odErase d o s).2 1 := by
  cases o with
  | none => exact .same ok (by omega)
  | some r => exact dgErase_num d ok _ _ _ hst hw
theorem orErase_ok (ok : FlOk f) (s : Int) (hst : f.steps + 1 ≤ 4611686018427387904) (hw : ∀ x ∈ f.worn, x + 1 ≤ 4611686018427387904) : FlOk (orErase f o s).2 := by
  cases o with
  | none => exact ok
  | some r => exact rgErase_ok f ok _ _ _ hst hw
end

section
variable (t n : Int) (w : World)
theorem rzread_any : Calls Try.prog 30 #[.agg #[.pointer none, .int .i64 0, .int .i64 0], .int .i64 t, .int .i64 n] w fun e w' => e = .returned (.tuple #[.slice none 0 0, .int .i64 2]) ∧ Below w.heap.size w w' := by
  go_enter Try.func30, Try.ntmps30
  go_wp2
  go_ret2
  exact ⟨rfl, (Below.refl _ _).alloc (Nat.le_refl _) _⟩
theorem rzprog_any (A : Option Addr) (z c : Nat) : Calls Try.prog 31 #[.agg #[.pointer none, .int .i64 0, .int .i64 0], .int .i64 t, .slice A z c] w fun e w' => e = .returned (.int .i64 2) ∧ Below w.heap.size w w' := by
  go_enter Try.func31, Try.ntmps31
  go_wp2
  go_ret
  exact ⟨rfl, (Below.refl _ _).alloc (Nat.le_refl _) _⟩
theorem rzerase_any : Calls Try.prog 32 #[.agg #[.pointer none, .int .i64 0, .int .i64 0], .int .i64 t] w fun e w' => e = .returned (.int .i64 2) ∧ Below w.heap.size w w' := by
  go_enter Try.func32, Try.ntmps32
  go_wp2
  go_ret
  exact ⟨rfl, (Below.refl _ _).alloc (Nat.le_refl _) _⟩
theorem rzblank_any : Calls Try.prog 33 #[.agg #[.pointer none, .int .i64 0, .int .i64 0], .int .i64 t] w fun e w' => e = .returned (.tuple #[.bool false, .int .i64 2]) ∧ Below w.heap.size w w' := by
  go_enter Try.func33, Try.ntmps33
  go_wp2
  go_ret2
  exact ⟨rfl, (Below.refl _ _).alloc (Nat.le_refl _) _⟩
end

section
variable {N : Nat} {w w' : World} {p : Ad} {d d' : Dl} {f f' : Fl}

/-- Read, of either -/
theorem pair_odread (h : Pair N w p d f) (o : Option (Nat × Nat)) (ho : RgOk d.b.length o) (hlen : d.b.length ≤ 2147483648) (t n : Int) (t1 : -9223372036854775808 ≤ t) (t2 : t ≤ 9223372036854775807) (n1 : -9223372036854775808 ≤ n) (n2 : n ≤ 9223372036854775807) :
    Calls Try.prog 24 #[.agg #[rgQ p.g o, rgX o, rgY o], .int .i64 t, .int .i64 n] w (ReadPost w (odRead d o t n)) := by
  cases o with
  | none => exact (zread_any t n w t1 t2 n1 n2).mono fun e w' ⟨he, hb⟩ => ⟨_, he, Ob.nil_ _ _ _, hb⟩
  | some r => exact dgread_any h.dev r.1 r.2 ho.1 ho.2.1 t n t1 t2 n1 n2 hlen
theorem pair_orread (h : Pair N w p d f) (o : Option (Nat × Nat)) (ho : RgOk f.b.length o) (hlen : f.b.length ≤ 2147483648) (t n : Int) (t1 : -9223372036854775808 ≤ t) (t2 : t ≤ 9223372036854775807) (n1 : -9223372036854775808 ≤ n) (n2 : n ≤ 9223372036854775807) :
    Calls Try.prog 30 #[.agg #[rgQ p.h o, rgX o, rgY o], .int .i64 t, .int .i64 n] w (ReadPost w (orRead f o t n)) := by
  cases o with
  | none => exact (rzread_any t n w).mono fun e w' ⟨he, hb⟩ => ⟨_, he, Ob.nil_ _ _ _, hb⟩
  | some r => exact rgread_any h.ref r.1 r.2 ho.1 ho.2.1 t n t1 t2 n1 n2 hlen
theorem pair_odblank (h : Pair N w p d f) (o : Option (Nat × Nat)) (ho : RgOk d.b.length o) (hlen : d.b.length ≤ 2147483648) (t : Int) (t1 : -9223372036854775808 ≤ t) (t2 : t ≤ 9223372036854775807) :
    Calls Try.prog 25 #[.agg #[rgQ p.g o, rgX o, rgY o], .int .i64 t] w (FlagPost w (odBlank d o t)) := by
  cases o with
  | none => exact zblank_any t w t1 t2
  | some r => exact dgblank_any h.dev r.1 r.2 ho.1 ho.2.1 t t1 t2 hlen ho.2.2
theorem pair_orblank (h : Pair N w p d f) (o : Option (Nat × Nat)) (ho : RgOk f.b.length o) (hlen : f.b.length ≤ 2147483648) (t : Int) (t1 : -9223372036854775808 ≤ t) (t2 : t ≤ 9223372036854775807) :
    Calls Try.prog 33 #[.agg #[rgQ p.h o, rgX o, rgY o], .int .i64 t] w (FlagPost w (orBlank f o t)) := by
  cases o with
  | none => exact rzblank_any t w
  | some r => exact rgblank_any h.ref r.1 r.2 ho.1 ho.2.1 t t1 t2 hlen

theorem Pair.same (h : Pair N w p d f) {v : Value} : ∀ e w', (e = .returned v ∧ Below w.heap.size w w') → PairPost N w p v d f e w' := fun e w' ⟨he, hb⟩ => ⟨he, h.below hb, Only.of_below hb⟩

theorem pair_odprog (h : Pair N w p d f) (ok : DlOk d) (o : Option (Nat × Nat)) (ho : RgOk d.b.length o) (s : Int) (A : Option Addr) (m : List UInt8) (c : Nat) (hm : Bs w A m) (hA : Off (AdF p) A m) (hc : m.length ≤ c) (hs1 : -9223372036854775808 ≤ s) (hs2 : s ≤ 9223372036854775807) (hmz : m.length ≤ 2147483648) (hst : d.steps + m.length ≤ 4611686018427387904) :
    Calls Try.prog 21 #[.agg #[rgQ p.g o, rgX o, rgY o], .int .i64 s, .slice A m.length c] w (PairPost N w p (.int .i64 (odProg d o s m).1) (odProg d o s m).2 f) := by
  cases o with
  | none => exact (zprog_any s w hs1 hs2 A m.length c hmz).mono h.same
  | some r => exact (dgprog_any h.dev ok r.1 r.2 ho.1 ho.2.1 s hs1 hs2 A m c hm (off_dev hA) hc hmz hst).mono fun e w' ⟨he, hd, ho⟩ => ⟨he, h.devTo hd ho, ho.ofDev⟩
theorem pair_orprog (h : Pair N w p d f) (ok : FlOk f) (o : Option (Nat × Nat)) (ho : RgOk f.b.length o) (s : Int) (A : Option Addr) (m : List UInt8) (c : Nat) (hm : Bs w A m) (hA : Off (AdF p) A m) (hc : m.length ≤ c) (hs1 : -9223372036854775808 ≤ s) (hs2 : s ≤ 9223372036854775807) (hmz : m.length ≤ 2147483648) (hst : f.steps + m.length ≤ 4611686018427387904) :
    Calls Try.prog 31 #[.agg #[rgQ p.h o, rgX o, rgY o], .int .i64 s, .slice A m.length c] w (PairPost N w p (.int .i64 (orProg f o s m).1) d (orProg f o s m).2) := by
  cases o with
  | none => exact (rzprog_any s w A m.length c).mono h.same
  | some r => exact (rgprog_any h.ref ok r.1 r.2 ho.1 ho.2.1 s hs1 hs2 A m c hm (off_ref hA) hc hmz hst).mono fun e w' ⟨he, hd, ho⟩ => ⟨he, h.refTo hd ho, ho.ofRef⟩
theorem pair_oderase (h : Pair N w p d f) (ok : DlOk d) (o : Option (Nat × Nat)) (ho : RgOk d.b.length o) (s : Int) (hs1 : -9223372036854775808 ≤ s) (hs2 : s ≤ 9223372036854775807) :
    Calls Try.prog 22 #[.agg #[rgQ p.g o, rgX o, rgY o], .int .i64 s] w (PairPost N w p (.int .i64 (odErase d o s).1) (odErase d o s).2 f) := by
  cases o with
  | none => exact (zerase_any s w hs1 hs2).mono h.same
  | some r => exact (dgerase_any h.dev ok r.1 r.2 ho.1 ho.2.1 s hs1 hs2).mono fun e w' ⟨he, hd, ho⟩ => ⟨he, h.devTo hd ho, ho.ofDev⟩
theorem pair_orerase (h : Pair N w p d f) (ok : FlOk f) (o : Option (Nat × Nat)) (ho : RgOk f.b.length o) (s : Int) (hs1 : -9223372036854775808 ≤ s) (hs2 : s ≤ 9223372036854775807) :
    Calls Try.prog 32 #[.agg #[rgQ p.h o, rgX o, rgY o], .int .i64 s] w (PairPost N w p (.int .i64 (orErase f o s).1) d (orErase f o s).2) := by
  cases o with
  | none => exact (rzerase_any s w).mono h.same
  | some r => exact (rgerase_any h.ref ok r.1 r.2 ho.1 ho.2.1 s hs1 hs2).mono fun e w' ⟨he, hd, ho⟩ => ⟨he, h.refTo hd ho, ho.ofRef⟩
end
end Go.Proofs.Ytmhcogpjgllgjaa

