/- Both flashes in one memory: a call on one leaves the other. -/
import Derived.Test.YtcpkmhhlcmnfdaaGsim
import Derived.Test.YtcpkmhhlcmnfdaaLaw2Alive
namespace Go.Proofs.Ytcpkmhhlcmnfdaa
open Go.RowKit
set_option linter.unusedVariables false
set_option maxRecDepth 100000

/-- where the two lie -/
structure Ad where
  g : Nat
  gB : Nat
  gW : Nat
  cB : Nat
  cW : Nat
  h : Nat
  hB : Nat
  hW : Nat
  kB : Nat
  kW : Nat

def AdF (p : Ad) (j : Nat) : Prop := FlF p.g p.gB p.gW j ∨ FlF p.h p.hB p.hW j

structure Pair (N : Nat) (w : World) (p : Ad) (d : Dl) (f : Fl) : Prop where
  dev : DevFl w p.g p.gB p.gW p.cB p.cW N d
  ref : RefFl w p.h p.hB p.hW p.kB p.kW N f
  lo : ∀ j, AdF p j → j < N
  ne : ∀ j, FlF p.g p.gB p.gW j → ¬ FlF p.h p.hB p.hW j
  size : N ≤ w.heap.size

section
variable {N : Nat} {w w' : World} {p : Ad} {d d' : Dl} {f f' : Fl}
theorem DevFl.apart {g gB gW cB cW : Nat} {F : Nat → Prop} (h : DevFl w g gB gW cB cW N d) (ho : Only F w w') (hF : ∀ j, F j → j < N ∧ j ≠ g ∧ j ≠ gB ∧ j ≠ gW) : DevFl w' g gB gW cB cW N d := by
  refine h.only ho (fun hf => (hF _ hf).2.1 rfl) (fun hf => (hF _ hf).2.2.1 rfl) (fun hf => (hF _ hf).2.2.2 rfl) ?_
  obtain ⟨AP, cP, hg, -, hap⟩ := h.cells
  rintro v k hv ⟨n, c, a, rfl, rfl⟩ hf
  rw [cell_of_row _ _ _ _ _ _ hg] at hv
  simp at hv
  obtain ⟨rfl, -, -⟩ := hv
  have := (hap a.block ⟨a, rfl, rfl⟩).2.2.2
  have := (hF _ hf).1
  omega
theorem RefFl.apart {g gB gW cB cW : Nat} {F : Nat → Prop} (h : RefFl w g gB gW cB cW N f) (ho : Only F w w') (hF : ∀ j, F j → j < N ∧ j ≠ g ∧ j ≠ gB ∧ j ≠ gW) : RefFl w' g gB gW cB cW N f := by
  refine h.only ho (fun hf => (hF _ hf).2.1 rfl) (fun hf => (hF _ hf).2.2.1 rfl) (fun hf => (hF _ hf).2.2.2 rfl) ?_
  obtain ⟨AP, cP, hg, -, hap⟩ := h.cells
  rintro v k hv ⟨n, c, a, rfl, rfl⟩ hf
  rw [cell_of_row _ _ _ _ _ _ hg] at hv
  simp at hv
  obtain ⟨rfl, -, -⟩ := hv
  have := (hap a.block ⟨a, rfl, rfl⟩).2.2.2
  have := (hF _ hf).1
  omega
theorem Pair.devTo (h : Pair N w p d f) (hd : DevFl w' p.g p.gB p.gW p.cB p.cW N d') (ho : Only (FlF p.g p.gB p.gW) w w') : Pair N w' p d' f :=
  ⟨hd, h.ref.apart ho (fun j hj => ⟨h.lo j (.inl hj), fun e => h.ne j hj (.inl e), fun e => h.ne j hj (.inr (.inl e)), fun e => h.ne j hj (.inr (.inr e))⟩), h.lo, h.ne, Nat.le_trans h.size ho.size⟩
theorem Pair.refTo (h : Pair N w p d f) (hd : RefFl w' p.h p.hB p.hW p.kB p.kW N f') (ho : Only (FlF p.h p.hB p.hW) w w') : Pair N w' p d f' :=
  ⟨h.dev.apart ho (fun j hj => ⟨h.lo j (.inr hj), fun e => h.ne j (.inl e) hj, fun e => h.ne j (.inr (.inl e)) hj, fun e => h.ne j (.inr (.inr e)) hj⟩), hd, h.lo, h.ne, Nat.le_trans h.size ho.size⟩
theorem Pair.below (h : Pair N w p d f) (hb : Below w.heap.size w w') : Pair N w' p d f := ⟨h.dev.below hb, h.ref.below hb, h.lo, h.ne, Nat.le_trans h.size hb.size⟩

def PairPost (N : Nat) (w : World) (p : Ad) (v : Value) (d : Dl) (f : Fl) (e : Ending) (w' : World) : Prop := e = .returned v ∧ Pair N w' p d f ∧ Only (AdF p) w w'

theorem Only.ofDev (h : Only (FlF p.g p.gB p.gW) w w') : Only (AdF p) w w' := h.mono fun _ _ hk => .inl hk
theorem Only.ofRef (h : Only (FlF p.h p.hB p.hW) w w') : Only (AdF p) w w' := h.mono fun _ _ hk => .inr hk

theorem off_dev {A : Option Addr} {l : List UInt8} (h : Off (AdF p) A l) : Off (FlF p.g p.gB p.gW) A l := fun hl k hk hf => h hl k hk (.inl hf)
theorem off_ref {A : Option Addr} {l : List UInt8} (h : Off (AdF p) A l) : Off (FlF p.h p.hB p.hW) A l := fun hl k hk hf => h hl k hk (.inr hf)

theorem pair_dprog (h : Pair N w p d f) (ok : DlOk d) (s : Int) (A : Option Addr) (m : List UInt8) (c : Nat) (hm : Bs w A m) (hA : Off (AdF p) A m) (hc : m.length ≤ c) (hs1 : -9223372036854775808 ≤ s) (hs2 : s ≤ 9223372036854775807) (hmz : m.length ≤ 2147483648) (hst : d.steps + m.length ≤ 4611686018427387904) :
    Calls Try.prog 63 #[.pointer (some ⟨p.g, 0, none⟩), .int .i64 s, .slice A m.length c] w (PairPost N w p (.int .i64 (dprogOf d s m).1) (dprogOf d s m).2 f) :=
  (dprog_any h.dev ok s A m c hm (off_dev hA) hc hs1 hs2 hmz hst).mono fun e w' ⟨he, hd, ho⟩ => ⟨he, h.devTo hd ho, ho.ofDev⟩
theorem pair_rprog (h : Pair N w p d f) (ok : FlOk f) (s : Int) (A : Option Addr) (m : List UInt8) (c : Nat) (hm : Bs w A m) (hA : Off (AdF p) A m) (hc : m.length ≤ c) (hs1 : -9223372036854775808 ≤ s) (hs2 : s ≤ 9223372036854775807) (hmz : m.length ≤ 2147483648) (hst : f.steps + m.length ≤ 4611686018427387904) :
    Calls Try.prog 65 #[.pointer (some ⟨p.h, 0, none⟩), .int .i64 s, .slice A m.length c] w (PairPost N w p (.int .i64 (rprogOf f s m).1) d (rprogOf f s m).2) :=
  (rprog_any h.ref ok s A m c hm (off_ref hA) hc hs1 hs2 hmz hst).mono fun e w' ⟨he, hd, ho⟩ => ⟨he, h.refTo hd ho, ho.ofRef⟩
theorem pair_derase (h : Pair N w p d f) (ok : DlOk d) (s : Int) : Calls Try.prog 76 #[.pointer (some ⟨p.g, 0, none⟩), .int .i64 s] w (PairPost N w p (.int .i64 (deraseOf d s).1) (deraseOf d s).2 f) :=
  (derase_any h.dev ok s).mono fun e w' ⟨he, hd, ho⟩ => ⟨he, h.devTo hd ho, ho.ofDev⟩
theorem pair_rerase (h : Pair N w p d f) (ok : FlOk f) (s : Int) : Calls Try.prog 81 #[.pointer (some ⟨p.h, 0, none⟩), .int .i64 s] w (PairPost N w p (.int .i64 (eraseOf f s).1) d (eraseOf f s).2) :=
  (rerase_any h.ref ok s).mono fun e w' ⟨he, hd, ho⟩ => ⟨he, h.refTo hd ho, ho.ofRef⟩
theorem pair_darm (h : Pair N w p d f) (n : Int) (A : Option Addr) (m : List UInt8) (c : Nat) (hm : Bs w A m) (hc : m.length ≤ c) (hlen : m.length ≤ 2147483648) :
    Calls Try.prog 23 #[.pointer (some ⟨p.g, 0, none⟩), .int .i64 n, .slice A m.length c] w (PairPost N w p (.tuple #[]) (darmOf d n m) f) :=
  (darm_any h.dev n A m c hm hc hlen h.size).mono fun e w' ⟨he, hd, ho⟩ => ⟨he, h.devTo hd (ho.toF fun k hk => .inl hk), (ho.toF (g := p.g) (gB := p.gB) (gW := p.gW) fun k hk => .inl hk).ofDev⟩
def rarmOf (f : Fl) (n : Int) (m : List UInt8) : Fl := ⟨f.b, f.worn, f.steps, (if n < -1 then -1 else if 4611686018427387904 < n then 4611686018427387904 else n), m, f.dark⟩
theorem pair_rarm (h : Pair N w p d f) (n : Int) (A : Option Addr) (m : List UInt8) (c : Nat) (hm : Bs w A m) (hlen : m.length ≤ 2147483648) :
    Calls Try.prog 24 #[.pointer (some ⟨p.h, 0, none⟩), .int .i64 n, .slice A m.length c] w (PairPost N w p (.tuple #[]) d (rarmOf f n m)) :=
  (rarm_any h.ref n A m c hm hlen h.size).mono fun e w' ⟨he, hd, ho⟩ => ⟨he, h.refTo hd (ho.toF fun k hk => .inl hk), (ho.toF (g := p.h) (gB := p.hB) (gW := p.hW) fun k hk => .inl hk).ofRef⟩
theorem pair_dboot (h : Pair N w p d f) : Calls Try.prog 25 #[.pointer (some ⟨p.g, 0, none⟩)] w (PairPost N w p (.tuple #[]) ⟨d.b, d.worn, d.steps, false, false, 0, []⟩ f) :=
  (dboot_any h.dev).mono fun e w' ⟨he, hd, ho⟩ => ⟨he, h.devTo hd (ho.toF fun k hk => .inl hk), (ho.toF (g := p.g) (gB := p.gB) (gW := p.gW) fun k hk => .inl hk).ofDev⟩
theorem pair_rboot (h : Pair N w p d f) : Calls Try.prog 26 #[.pointer (some ⟨p.h, 0, none⟩)] w (PairPost N w p (.tuple #[]) d ⟨f.b, f.worn, f.steps, -1, [], false⟩) :=
  (rboot_any h.ref).mono fun e w' ⟨he, hd, ho⟩ => ⟨he, h.refTo hd (ho.toF fun k hk => .inl hk), (ho.toF (g := p.h) (gB := p.hB) (gW := p.hW) fun k hk => .inl hk).ofRef⟩
def dspoilOf (d : Dl) (a : Int) (s : List UInt8) : Dl := if 0 ≤ a ∧ a + s.length ≤ d.b.length then dwithB d (laid d.b a.toNat s) else d
def rspoilOf (d : Fl) (a : Int) (s : List UInt8) : Fl := if 0 ≤ a ∧ a + s.length ≤ d.b.length then withB d (laid d.b a.toNat s) else d
def spoilCode (l : List UInt8) (a : Int) (s : List UInt8) : Int := if 0 ≤ a ∧ a + s.length ≤ l.length then 0 else 2
theorem pair_dspoil (h : Pair N w p d f) (a : Int) (A : Option Addr) (s : List UInt8) (c : Nat) (hs : Bs w A s) (ha1 : -9223372036854775808 ≤ a) (ha2 : a ≤ 9223372036854775807) (hlen : d.b.length ≤ 2147483648) (hsl : s.length ≤ 2147483648) :
    Calls Try.prog 34 #[.pointer (some ⟨p.g, 0, none⟩), .int .i64 a, .slice A s.length c] w (PairPost N w p (.int .i64 (spoilCode d.b a s)) (dspoilOf d a s) f) :=
  (dspoil_any h.dev a A s c hs ha1 ha2 hlen hsl).mono fun e w' ⟨he, hd, ho⟩ => ⟨he, h.devTo hd (ho.toF fun k hk => .inr (.inl hk)), (ho.toF (g := p.g) (gB := p.gB) (gW := p.gW) fun k hk => .inr (.inl hk)).ofDev⟩
theorem sim_spoil {d : Dl} {f : Fl} (s : Sim d f) (a : Int) (m : List UInt8) : Sim (dspoilOf d a m) (rspoilOf f a m) := by
  unfold dspoilOf rspoilOf
  rw [s.b]
  split
  · exact s.withB rfl
  · exact s
theorem dspoilOf_num (d : Dl) (ok : DlOk d) (a : Int) (m : List UInt8) : NumFact d (dspoilOf d a m) 0 := by
  unfold dspoilOf
  split
  · exact ⟨ok.withB (laid_len _ _ _), by show d.steps ≤ _; omega, rfl, fun M hM x hx => by have := hM x hx; omega⟩
  · exact .same ok (by omega)
theorem rspoilOf_ok (d : Fl) (ok : FlOk d) (a : Int) (m : List UInt8) : FlOk (rspoilOf d a m) := by
  unfold rspoilOf
  split
  · exact ok.withB (laid_len _ _ _)
  · exact ok
theorem rarmOf_ok (f : Fl) (ok : FlOk f) (n : Int) (m : List UInt8) (hm : m.length ≤ 2147483648) : FlOk (rarmOf f n m) := by
  unfold rarmOf
  refine ⟨ok.len, ok.few, ok.worn, ok.s0, ok.s1, ?_, ?_, hm⟩
  · show -1 ≤ (if n < -1 then -1 else if 4611686018427387904 < n then 4611686018427387904 else n)
    split
    · omega
    · split <;> omega
  · show (if n < -1 then -1 else if 4611686018427387904 < n then 4611686018427387904 else n) ≤ 4611686018427387904
    split
    · omega
    · split <;> omega
end
end Go.Proofs.Ytcpkmhhlcmnfdaa

