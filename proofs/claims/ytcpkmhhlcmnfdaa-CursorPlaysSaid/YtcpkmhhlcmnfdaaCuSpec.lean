/- What the program's cursor does, told in plain states, whatever it is made of. (CuSpec, NewOk: to be shown of the code that lands; the laws' walks take them.) -/
import Derived.Test.YtcpkmhhlcmnfdaaCu6
import Derived.Test.YtcpkmhhlcmnfdaaDevRegion3
namespace Go.Proofs.Ytcpkmhhlcmnfdaa
open Go.RowKit
set_option linter.unusedVariables false
set_option maxRecDepth 100000

/-- where a flash of the program's lies -/
structure FA where
  g : Nat
  gB : Nat
  gW : Nat
  cB : Nat
  cW : Nat
def FA.F (a : FA) (k : Nat) : Prop := FlF a.g a.gB a.gW k
def FA.In (a : FA) (w : World) (d : Dl) : Prop := DevFl w a.g a.gB a.gW a.cB a.cW 0 d
/-- .. and what is to be picked, if anything, does not lie in block g -/
def FlIn (fa : FA) (g : Nat) (W : World) (d : Dl) : Prop := ∃ N, DevFl W fa.g fa.gB fa.gW fa.cB fa.cW N d ∧ (0 < d.pick.length → g < N)
theorem DevFl.low {w : World} {g gB gW cB cW N M : Nat} {d : Dl} (h : DevFl w g gB gW cB cW N d) (hM : M ≤ N) : DevFl w g gB gW cB cW M d := by
  obtain ⟨AP, cP, hg, hbp, hap⟩ := h.cells
  exact ⟨⟨AP, cP, hg, hbp, fun k hk => by obtain ⟨q1, q2, q3, q4⟩ := hap k hk; exact ⟨q1, q2, q3, by omega⟩⟩, h.bytes, h.counts⟩
theorem FlIn.in_ {fa : FA} {g : Nat} {W : World} {d : Dl} (h : FlIn fa g W d) : fa.In W d := by
  obtain ⟨N, h1, -⟩ := h
  exact h1.low (Nat.zero_le _)
def turned (u : Cu Dl) (d : Dl) : Cu Dl := ⟨⟨d, u.x.hi, u.x.ent⟩, u.at_, u.held, u.dead⟩

/-- P says where the cursor lies, and its flash; Q: the blocks that are its own, and its flash's -/
structure CuSpec (c : Nat) (fa : FA) (g : Nat) (P : World → Cu Dl → (Nat → Prop) → Prop) : Prop where
  write : ∀ W u Q A l k, P W u Q → Bs W A l → (0 < l.length → ∀ j, At A j → ¬ Q j) → l.length ≤ k → l.length ≤ 65536 → Room u.x.d (10 * (l.length : Int)) →
    Calls Try.prog 19 #[.pointer (some ⟨g, 0, none⟩), .slice A l.length k] W fun e w' => e = .returned (.int .i64 (cwrite (devOps 0 c) u l).1) ∧ Only Q W w' ∧ ∃ Q', P w' (cwrite (devOps 0 c) u l).2 Q' ∧ ∀ j, Q' j → Q j ∨ W.heap.size ≤ j
  flush : ∀ W u Q, P W u Q → Room u.x.d 10 → Calls Try.prog 21 #[.pointer (some ⟨g, 0, none⟩)] W fun e w' => e = .returned (.int .i64 (cflush (devOps 0 c) u).1) ∧ Only Q W w' ∧ ∃ Q', P w' (cflush (devOps 0 c) u).2 Q' ∧ ∀ j, Q' j → Q j ∨ W.heap.size ≤ j
  at_ : ∀ W u Q, P W u Q → Calls Try.prog 27 #[.pointer (some ⟨g, 0, none⟩)] W fun e w' => e = .returned (.int .i64 (u.at_ : Int)) ∧ W = w'
  held : ∀ W u Q, P W u Q → Calls Try.prog 28 #[.pointer (some ⟨g, 0, none⟩)] W (RetOb 5 W u.held)
  lt : ∀ W u Q, P W u Q → ∀ j, Q j → j < W.heap.size
  self : ∀ W u Q, P W u Q → g < W.heap.size
  later : ∀ W W' u Q, P W u Q → Below W.heap.size W W' → P W' u Q
  fl : ∀ W u Q, P W u Q → fa.In W u.x.d ∧ ∀ j, fa.F j → Q j
  turn : ∀ W W' u Q d, P W u Q → FlIn fa g W' d → Only fa.F W W' → d.b.length = u.x.d.b.length → P W' (turned u d) Q

/-- .. with what is to be kept of world w0: the blocks of K -/
def PK (P : World → Cu Dl → (Nat → Prop) → Prop) (w0 : World) (K : Nat → Prop) (W : World) (u : Cu Dl) : Prop :=
  ∃ Q, P W u Q ∧ Only (fun j => ¬ K j) w0 W ∧ ∀ j, Q j → ¬ K j
theorem PK.bs {P : World → Cu Dl → (Nat → Prop) → Prop} {w0 : World} {K : Nat → Prop} {W : World} {u : Cu Dl} (h : PK P w0 K W u) {A : Option Addr} {l : List UInt8} (hl : Bs w0 A l) (hA : 0 < l.length → ∀ j, At A j → K j) : Bs W A l := by
  obtain ⟨Q, -, ho, -⟩ := h
  exact hl.offs (fun hp j hj hn => hn (hA hp j hj)) ho
theorem PK.cell {P : World → Cu Dl → (Nat → Prop) → Prop} {w0 : World} {K : Nat → Prop} {W : World} {u : Cu Dl} (h : PK P w0 K W u) {b o : Nat} {v : Value} (hc : w0.cell? ⟨b, o, none⟩ = some v) (hK : K b) : W.cell? ⟨b, o, none⟩ = some v := by
  obtain ⟨Q, -, ho, -⟩ := h
  rw [World.cell?_of_block (ho.block b (World.block_lt_of_cell? w0 _ hc) (fun hn => hn hK))]
  exact hc
section
variable {c : Nat} {fa : FA} {g : Nat} {P : World → Cu Dl → (Nat → Prop) → Prop} {w0 : World} {K : Nat → Prop}
theorem pk_after (hK : ∀ j, K j → j < w0.heap.size) {W w' : World} {u' : Cu Dl} {Q : Nat → Prop} (ho : Only (fun j => ¬ K j) w0 W) (hq : ∀ j, Q j → ¬ K j) (h1 : Only Q W w') (h2 : ∃ Q', P w' u' Q' ∧ ∀ j, Q' j → Q j ∨ W.heap.size ≤ j) : PK P w0 K w' u' := by
  obtain ⟨Q', hp, hQ'⟩ := h2
  refine ⟨Q', hp, ho.trans (h1.mono fun j _ hj => hq j hj), fun j hj hk => ?_⟩
  rcases hQ' j hj with q | q
  · exact hq j q hk
  · have := hK j hk
    have := ho.size
    omega
theorem CuSpec.kwrite (sp : CuSpec c fa g P) (hK : ∀ j, K j → j < w0.heap.size) {W : World} {u : Cu Dl} (h : PK P w0 K W u) (A : Option Addr) (l : List UInt8) (k : Nat) (hl : Bs w0 A l) (hA : 0 < l.length → ∀ j, At A j → K j) (hk : l.length ≤ k) (hl2 : l.length ≤ 65536) (hr : Room u.x.d (10 * (l.length : Int))) :
    Calls Try.prog 19 #[.pointer (some ⟨g, 0, none⟩), .slice A l.length k] W fun e w' => e = .returned (.int .i64 (cwrite (devOps 0 c) u l).1) ∧ PK P w0 K w' (cwrite (devOps 0 c) u l).2 := by
  have hb := h.bs hl hA
  obtain ⟨Q, hp, ho, hq⟩ := h
  exact (sp.write W u Q A l k hp hb (fun hp j hj hQ => hq j hQ (hA hp j hj)) hk hl2 hr).mono fun e w' ⟨h1, h2, h3⟩ => ⟨h1, pk_after hK ho hq h2 h3⟩
theorem CuSpec.kflush (sp : CuSpec c fa g P) (hK : ∀ j, K j → j < w0.heap.size) {W : World} {u : Cu Dl} (h : PK P w0 K W u) (hr : Room u.x.d 10) :
    Calls Try.prog 21 #[.pointer (some ⟨g, 0, none⟩)] W fun e w' => e = .returned (.int .i64 (cflush (devOps 0 c) u).1) ∧ PK P w0 K w' (cflush (devOps 0 c) u).2 := by
  obtain ⟨Q, hp, ho, hq⟩ := h
  exact (sp.flush W u Q hp hr).mono fun e w' ⟨h1, h2, h3⟩ => ⟨h1, pk_after hK ho hq h2 h3⟩
theorem CuSpec.klater (sp : CuSpec c fa g P) {W W' : World} {u : Cu Dl} (h : PK P w0 K W u) (hb : Below W.heap.size W W') : PK P w0 K W' u := by
  obtain ⟨Q, hp, ho, hq⟩ := h
  exact ⟨Q, sp.later W W' u Q hp hb, ho.trans (Only.of_below hb), hq⟩
theorem CuSpec.kturn (sp : CuSpec c fa g P) {W W' : World} {u : Cu Dl} {d : Dl} (h : PK P w0 K W u) (hd : FlIn fa g W' d) (hb : Only fa.F W W') (hl : d.b.length = u.x.d.b.length) : PK P w0 K W' (turned u d) := by
  obtain ⟨Q, hp, ho, hq⟩ := h
  obtain ⟨-, hf⟩ := sp.fl W u Q hp
  exact ⟨Q, sp.turn W W' u Q d hp hd hb hl, ho.trans (hb.mono fun j _ hj => hq j (hf j hj)), hq⟩
theorem CuSpec.kself (sp : CuSpec c fa g P) {W : World} {u : Cu Dl} (h : PK P w0 K W u) : g < W.heap.size := by
  obtain ⟨Q, hp, -, -⟩ := h
  exact sp.self W u Q hp
theorem CuSpec.kfl (sp : CuSpec c fa g P) {W : World} {u : Cu Dl} (h : PK P w0 K W u) : fa.In W u.x.d := by
  obtain ⟨Q, hp, -, -⟩ := h
  exact (sp.fl W u Q hp).1
theorem CuSpec.kat (sp : CuSpec c fa g P) {W : World} {u : Cu Dl} (h : PK P w0 K W u) : Calls Try.prog 27 #[.pointer (some ⟨g, 0, none⟩)] W fun e w' => e = .returned (.int .i64 (u.at_ : Int)) ∧ W = w' := by
  obtain ⟨Q, hp, -, -⟩ := h
  exact sp.at_ W u Q hp
theorem CuSpec.kheld (sp : CuSpec c fa g P) {W : World} {u : Cu Dl} (h : PK P w0 K W u) : Calls Try.prog 28 #[.pointer (some ⟨g, 0, none⟩)] W (RetOb 5 W u.held) := by
  obtain ⟨Q, hp, -, -⟩ := h
  exact sp.held W u Q hp
/-- from here on something more is to be kept: what is new -/
theorem PK.more {W : World} {u : Cu Dl} (sp : CuSpec c fa g P) (h : PK P w0 K W u) {W1 : World} (hb : Below W.heap.size W W1) {K' : Nat → Prop} (hK' : ∀ j, K' j → K j ∧ j < w0.heap.size ∨ W.heap.size ≤ j ∧ j < W1.heap.size) : PK P W1 K' W1 u := by
  obtain ⟨Q, hp, ho, hq⟩ := h
  refine ⟨Q, sp.later W W1 u Q hp hb, Only.refl _ _, fun j hj hk => ?_⟩
  rcases hK' j hk with ⟨q, _⟩ | ⟨q, _⟩
  · exact hq j hj q
  · have := sp.lt W u Q hp j hj
    omega
end

/-- what New returns -/
def CNewPost (c : Nat) (fa : FA) (d : Dl) (n : Int) (w : World) (e : Ending) (w' : World) : Prop :=
  Below w.heap.size w w' ∧
  if n < 0 ∨ (c : Int) * 1024 < n then e = .returned (.tuple #[.pointer none, .int .i64 1])
  else if (dgRead d 0 c (n / 8 * 8) (n % 8)).2 ≠ 0 then e = .returned (.tuple #[.pointer none, .int .i64 (dgRead d 0 c (n / 8 * 8) (n % 8)).2])
  else ∃ g P Q, e = .returned (.tuple #[.pointer (some ⟨g, 0, none⟩), .int .i64 0]) ∧ CuSpec c fa g P ∧ P w' (cfirst d n.toNat (dgRead d 0 c (n / 8 * 8) (n % 8)).1) Q ∧ ∀ j, Q j → fa.F j ∨ w.heap.size ≤ j
def NewOk : Prop := ∀ (c : Nat) (w : World) (fa : FA) (d : Dl) (n : Int), 1 ≤ c → c ≤ 256 → fa.In w d → DlOk d → d.pick.length = 0 → c * 1024 ≤ d.b.length → -9223372036854775808 ≤ n → n ≤ 9223372036854775807 →
  Calls Try.prog 16 #[.agg #[.pointer (some ⟨fa.g, 0, none⟩), .int .i64 0, .int .i64 (c : Int)], .int .i64 n] w (CNewPost c fa d n w)

/-- over a flash with nothing armed -/
theorem cnew_calm {c : Nat} {w w0 : World} {fa : FA} {d : Dl} {n : Nat} (hn : n ≤ 1024 * c) (hc : CalmD d c) {K : Nat → Prop} (hK : ∀ j, K j → ¬ fa.F j ∧ j < w0.heap.size) (ho : Only (fun j => ¬ K j) w0 w) {e : Ending} {w' : World} (h : CNewPost c fa d (n : Int) w e w') :
    Below w.heap.size w w' ∧ ∃ g P, e = .returned (.tuple #[.pointer (some ⟨g, 0, none⟩), .int .i64 0]) ∧ CuSpec c fa g P ∧ PK P w0 K w' (cfirst d n (cut d.b (n / 8 * 8) (n % 8))) := by
  obtain ⟨h1, h2⟩ := h
  have hl := hc.len
  refine ⟨h1, ?_⟩
  have e1 : dgRead d 0 c ((n : Int) / 8 * 8) ((n : Int) % 8) = (cut d.b (n / 8 * 8) (n % 8), 0) := by
    have := dgRead_calm hc (t := n / 8 * 8) (n := n % 8) (by omega)
    rw [show ((n : Int) / 8 * 8) = ((n / 8 * 8 : Nat) : Int) by omega, show ((n : Int) % 8) = ((n % 8 : Nat) : Int) by omega]
    exact this
  rw [if_neg (by omega), e1, if_neg (by simp)] at h2
  rw [Int.toNat_natCast] at h2
  obtain ⟨g, P, Q, q1, q2, q3, q4⟩ := h2
  refine ⟨g, P, q1, q2, Q, q3, ho.trans (Only.of_below h1), fun j hj hk => ?_⟩
  rcases q4 j hj with q | q
  · exact (hK j hk).1 q
  · have := (hK j hk).2
    have := ho.size
    omega
end Go.Proofs.Ytcpkmhhlcmnfdaa

