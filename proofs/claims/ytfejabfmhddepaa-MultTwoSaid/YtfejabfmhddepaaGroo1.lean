/- Plain words for slices of uint64: 'Us w A l': a slice value with address A and length l.length reads, in world w, as the numbers l. 'Uo E w base v l': the slice value v owns the numbers l in a block from base on. No program is named here. math/bits: Mul64, Add64, Sub64, each with its answer under names; then roots.times and roots.atMost. Roots and primes, plainly: a number built bit by bit; the root of p by its first 64 bits behind the point; the first primes. No program is named here. roots.times; the four closures; roots.greatest. roots.greatest, whatever function value it is given. The closures of roots.Square and Cube, and the two functions themselves. The contracts of roots.Square and roots.Cube. The contracts of roots.divisible and roots.Primes. -/
import Derived.Test.YtfejabfmhddepaaGbase
import Derived.Shelf.Bits.Mul64
import Derived.Shelf.Spec.BitsCarry
namespace Go.Proofs.Ytfejabfmhddepaa
open Go.RowKit
set_option linter.unusedVariables false
set_option maxRecDepth 100000

def Us (w : World) (A : Option Addr) (l : List Nat) : Prop :=
  0 < l.length → ∃ b o, A = some ⟨b, o, none⟩ ∧ ∀ j, j < l.length → w.cell? ⟨b, o + j, none⟩ = some (.int .u64 ((l.getD j 0 : Nat) : Int))


theorem Us.nil_ (w : World) (A : Option Addr) : Us w A [] := fun h => absurd h (by simp)

theorem Us.at_ {w : World} {A : Option Addr} {l : List Nat} (h : Us w A l) {k : Nat} (hk : k < l.length) :
    ∃ b o, A = some ⟨b, o, none⟩ ∧ w.cell? ⟨b, o + k, none⟩ = some (.int .u64 ((l.getD k 0 : Nat) : Int)) := by
  obtain ⟨b, o, e, hc⟩ := h (by omega)
  exact ⟨b, o, e, hc k hk⟩

theorem Us.drewN {w : World} {A : Option Addr} {l : List Nat} (h : Us w A l) (n : Nat) : Us (w.drewN n) A l := h

theorem Us.below {w w' : World} {A : Option Addr} {l : List Nat} (h : Us w A l) (hb : Below w.heap.size w w') : Us w' A l := fun hl => by
  obtain ⟨b, o, e, hc⟩ := h hl
  refine ⟨b, o, e, fun j hj => ?_⟩
  have hcj := hc j hj
  have hlt := World.block_lt_of_cell? w _ hcj
  rw [hb.cell hlt]
  exact hcj



/-- the value of a byte -/
def uval (x : Nat) : Value := .int .u64 (x : Int)

theorem uval_one (x : Nat) : (uval x).oneCell' = true := rfl

/-- the cells that Us names, in the spelling of the append laws -/
theorem Us.news {w : World} {a : Addr} {l : List Nat} (h : Us w (some a) l) : ∀ j u, (l.map uval)[j]? = some u → w.cell? (a.add j) = some u := by
  intro j u hu
  have hj : j < l.length := by
    rcases Nat.lt_or_ge j l.length with h | h
    · exact h
    · rw [List.getElem?_eq_none (by simpa using h)] at hu; cases hu
  obtain ⟨b, o, e, hc⟩ := h (by omega)
  injection e with e
  subst e
  have hadd : (⟨b, o, none⟩ : Addr).add j = ⟨b, o + j, none⟩ := by unfold Addr.add; split <;> simp_all
  rw [hadd, hc j hj]
  rw [List.getElem?_map, List.getElem?_eq_getElem hj] at hu
  simp at hu
  subst hu
  simp [uval, List.getD, List.getElem?_eq_getElem hj]

/-- the slice value v owns the bytes l, in a block from base on -/
def Uo (E : TypeId) (w : World) (base : Nat) (v : Value) (l : List Nat) : Prop := w.ownsRow base E 1 v l.length (l.map uval)

theorem Uo.nil_ (E : TypeId) (w : World) (base : Nat) : Uo E w base (.slice none 0 0) [] := World.ownsRow_nil w base E 1

theorem Uo.form {E : TypeId} {w : World} {base : Nat} {v : Value} {l : List Nat} (h : Uo E w base v l) :
    ∃ A c, v = .slice A l.length c ∧ Us w A l ∧ (A = none ∨ ∃ g, A = some ⟨g, 0, none⟩ ∧ base ≤ g ∧ g < w.heap.size) := by
  rcases h.2 with ⟨rfl, hn⟩ | ⟨g, cap, cur, rfl, hb, hg, hnc, hcm, hcs, htake⟩
  · have : l = [] := List.eq_nil_of_length_eq_zero hn
    subst this
    exact ⟨none, 0, rfl, Us.nil_ _ _, .inl rfl⟩
  · refine ⟨_, cap, rfl, fun hl => ⟨g, 0, rfl, fun j hj => ?_⟩, .inr ⟨g, rfl, hb, (Array.getElem?_eq_some_iff.1 hg).1⟩⟩
    have := World.ownsRow.cellAt h j (by omega)
    rw [Nat.zero_add, this, List.getElem?_map, List.getElem?_eq_getElem hj]
    simp [uval, List.getD, List.getElem?_eq_getElem hj]

theorem Uo.bs {E : TypeId} {w : World} {base : Nat} {A : Option Addr} {n c : Nat} {l : List Nat} (h : Uo E w base (.slice A n c) l) : Us w A l := by
  obtain ⟨A', c', e, hb, _⟩ := h.form
  injection e with e1 e2 e3
  subst e1
  exact hb

theorem Uo.below {E : TypeId} {w w' : World} {base : Nat} {v : Value} {l : List Nat} (h : Uo E w base v l) (hb : Below w.heap.size w w') : Uo E w' base v l := by
  refine ⟨h.1, ?_⟩
  rcases h.2 with hn | ⟨g, cap, cur, rfl, hb', hg, rest⟩
  · exact .inl hn
  · refine .inr ⟨g, cap, cur, rfl, hb', ?_, rest⟩
    rw [hb.block g (Array.getElem?_eq_some_iff.1 hg).1]
    exact hg

theorem Uo.drewN {E : TypeId} {w : World} {base : Nat} {v : Value} {l : List Nat} (h : Uo E w base v l) (n : Nat) : Uo E (w.drewN n) base v l := h

theorem Uo.low {E : TypeId} {w : World} {base base' : Nat} {v : Value} {l : List Nat} (h : Uo E w base v l) (hb : base' ≤ base) : Uo E w base' v l := by
  refine ⟨h.1, ?_⟩
  rcases h.2 with hn | ⟨g, cap, cur, rfl, hb', rest⟩
  · exact .inl hn
  · exact .inr ⟨g, cap, cur, rfl, by omega, rest⟩

theorem Uo.len {E : TypeId} {w : World} {base : Nat} {A : Option Addr} {n c : Nat} {l : List Nat} (h : Uo E w base (.slice A n c) l) : n = l.length := by
  obtain ⟨A', c', e, _, _⟩ := h.form
  injection e with e1 e2 e3

theorem Uo.frozen {E : TypeId} {w : World} {base g n c : Nat} {l : List Nat} (h : Uo E w base (.slice (some ⟨g, 0, none⟩) n c) l) (k : Nat) : w.frozen? ⟨g, k, none⟩ = false := by
  have := h.len
  subst this
  exact World.ownsRow.frozenAt h k

/-- a store into an owned row -/
theorem Uo.set_ {E : TypeId} {w : World} {base g n c : Nat} {l : List Nat} (h : Uo E w base (.slice (some ⟨g, 0, none⟩) n c) l) (k : Nat) (x : Nat) :
    Uo E (w.setCell ⟨g, k, none⟩ (uval x)) base (.slice (some ⟨g, 0, none⟩) n c) (l.set k x) := by
  obtain ⟨A', c', e, _, _⟩ := h.form
  injection e with e1 e2 e3
  subst e2
  have := (World.ownsRow.stored h k (uval x)).1
  unfold Uo
  rw [List.map_set, List.length_set]
  exact this

section
variable {P : Program}

theorem run_append_nil_us (w : World) (base : Nat) (t ty e : TypeId) (i : TypeInfo) (ht : P.underlying t = some (.slice e)) (hi : P.info? e = some i)
    (v : Value) (l : List Nat) (hown : Uo e w base v l) (c : Nat) : (Builtin.append_ #[t, t] ty #[v, .slice none 0 c]).run P w = .ok v w := by
  rcases hown.2 with ⟨rfl, _⟩ | ⟨g, cap, cur, rfl, _, _, hnc, _⟩
  · simp [Builtin.append_, run_underlying ht, sizeOf, typeInfo, hi, Builtin.lenOf, Builtin.firstCells]
  · simp [Builtin.append_, run_underlying ht, sizeOf, typeInfo, hi, Builtin.lenOf, Builtin.firstCells, hnc, storeCells]

/-- append of what reads as m to what owns l -/
theorem run_append_us (w : World) (base : Nat) (t ty e : TypeId) (ht : P.underlying t = some (.slice e))
    (he : (P.info? e).map (fun i => (i.zero, i.size, i.bytes)) = some (some (.int .u64 0), 1, 8))
    (v : Value) (l : List Nat) (hown : Uo e w base v l) (A : Option Addr) (m : List Nat) (c : Nat) (hm : Us w A m)
    (hlen : l.length + m.length ≤ 2147483648) (hbase : base ≤ w.heap.size) :
    ∃ v' w', (Builtin.append_ #[t, t] ty #[v, .slice A m.length c]).run P w = .ok v' w' ∧ Uo e w' base v' (l ++ m) ∧ w.grownBy w' v.ownBlock := by
  obtain ⟨i0, hi, hz0, hz1, hz2⟩ := info_parts he
  rcases A with _ | a
  · have h0 : m.length = 0 := by
      rcases Nat.eq_zero_or_pos m.length with h | h
      · exact h
      · obtain ⟨b, o, e', _⟩ := hm h; cases e'
    have : m = [] := List.eq_nil_of_length_eq_zero h0
    subst this
    exact ⟨v, w, run_append_nil_us w base t ty e i0 ht hi v l hown c, by simpa using hown, World.grownBy.refl w _⟩
  · obtain ⟨v', w', hr, h2, h3, _⟩ := run_append_own (P := P) w base t ty e i0 (.int .u64 0) 1 8 ht hi hz0 hz1 hz2 rfl (by decide) v l.length (l.map uval) hown a m.length c (m.map uval) (by simp)
      hm.news (fun u hu => by obtain ⟨x, _, rfl⟩ := List.mem_map.1 hu; rfl) (by unfold maxLen; omega) (by omega) hbase
    refine ⟨v', w', hr, ?_, h3⟩
    unfold Uo
    rw [List.map_append, List.length_append]
    exact h2

theorem wpList_append_us {w : World} {ops : Array Oper} {rest : List Oper} {o : Oper} {a : Act} {Q : Exit → Act → World → Prop} (hgd : o.guard = none) (s x : Operand) (t : TypeId)
    (ho : o.op = .call { callee := .builtin .append, args := #[s, x], argTypes := #[t, t] }) (base : Nat) (e : TypeId) (ht : P.underlying t = some (.slice e))
    (he : (P.info? e).map (fun i => (i.zero, i.size, i.bytes)) = some (some (.int .u64 0), 1, 8))
    (v : Value) (l : List Nat) (hs : a.eval s = v) (hown : Uo e w base v l) (A : Option Addr) (m : List Nat) (n c : Nat) (hx : a.eval x = .slice A n c) (hn : n = m.length) (hm : Us w A m)
    (hlen : l.length + m.length ≤ 2147483648) (hbase : base ≤ w.heap.size)
    (h : ∀ v' w', Uo e w' base v' (l ++ m) → w.grownBy w' v.ownBlock → wpList P ops Q rest (a.put o.dst v') w') : wpList P ops Q (o :: rest) a w := by
  subst hn
  refine wpList_plain hgd fun K hK => ?_
  obtain ⟨v', w', hrun, h2, h3⟩ := run_append_us (P := P) w base t o.type e ht he v l hown A m c hm hlen hbase
  unfold Oper.wp execOp
  simp only [ho, resolve, invoke, builtin, Sem.run_bind, Sem.run_pure, Result.andThen_ok, List.map_toArray, List.map_cons, List.map_nil, hs, hx, hrun]
  exact hK _ _ (h v' w' h2 h3)
end

/-- append, as one step of a region that draws -/
theorem step_append_us {P : Program} {ops : Array Oper} {o : Oper} {a : Act} {w : World} {K : Act → World → Prop} {Q : Exit → Act → World → Prop} {E : Prop} (hgd : o.guard = none) (s x : Operand) (t : TypeId)
    (ho : o.op = .call { callee := .builtin .append, args := #[s, x], argTypes := #[t, t] }) (base : Nat) (e : TypeId) (ht : P.underlying t = some (.slice e))
    (he : (P.info? e).map (fun i => (i.zero, i.size, i.bytes)) = some (some (.int .u64 0), 1, 8))
    (v : Value) (l : List Nat) (hs : a.eval s = v) (hown : Uo e w base v l) (A : Option Addr) (m : List Nat) (n c : Nat) (hx : a.eval x = .slice A n c) (hn : n = m.length) (hm : Us w A m)
    (hlen : l.length + m.length ≤ 2147483648) (hbase : base ≤ w.heap.size)
    (h : ∀ v' w', Uo e w' base v' (l ++ m) → w.grownBy w' v.ownBlock → K (a.put o.dst v') w') : if Region.wanted o (yielded ops a.tmps) = true then Oper.wp P o a w K Q else E := by
  have hw : Region.wanted o (yielded ops a.tmps) = true := by simp [Region.wanted, hgd]
  rw [if_pos hw]
  subst hn
  obtain ⟨v', w', hrun, h2, h3⟩ := run_append_us (P := P) w base t o.type e ht he v l hown A m c hm hlen hbase
  unfold Oper.wp execOp
  simp only [ho, resolve, invoke, builtin, Sem.run_bind, Sem.run_pure, Result.andThen_ok, List.map_toArray, List.map_cons, List.map_nil, hs, hx, hrun]
  exact h v' w' h2 h3

end Go.Proofs.Ytfejabfmhddepaa

namespace Go.Proofs.Ytfejabfmhddepaa
open Go.RowKit
set_option linter.unusedVariables false
set_option maxRecDepth 100000

set_option maxHeartbeats 1600000 in
theorem mul_any (x y : Nat) (hx : x < 18446744073709551616) (hy : y < 18446744073709551616) (w : World) :
    Calls Try.prog 90 #[.int .u64 x, .int .u64 y] w fun e w' => e = .returned (.tuple #[.int .u64 ((x * y / 18446744073709551616 : Nat) : Int), .int .u64 ((x * y % 18446744073709551616 : Nat) : Int)]) ∧ w' = w := by
  obtain ⟨bd, bt, bw, hhi⟩ := Lib.mul64_hi x y hx hy
  have ba := Lib.half_mul_le (a := x / 4294967296) (b := y / 4294967296) (by omega) (by omega)
  have bb := Lib.half_mul_le (a := x / 4294967296) (b := y % 4294967296) (by omega) (by omega)
  have bc := Lib.half_mul_le (a := x % 4294967296) (b := y / 4294967296) (by omega) (by omega)
  have ba' : x / 4294967296 * (y / 4294967296) < 18446744073709551616 := by omega
  have bb' : x / 4294967296 * (y % 4294967296) < 18446744073709551616 := by omega
  have bc' : x % 4294967296 * (y / 4294967296) < 18446744073709551616 := by omega
  have bh1 : x / 4294967296 * (y / 4294967296) + (x / 4294967296 * (y % 4294967296) + x % 4294967296 * (y % 4294967296) / 4294967296) / 4294967296 < 18446744073709551616 := by omega
  have bh : x / 4294967296 * (y / 4294967296) + (x / 4294967296 * (y % 4294967296) + x % 4294967296 * (y % 4294967296) / 4294967296) / 4294967296 + ((x / 4294967296 * (y % 4294967296) + x % 4294967296 * (y % 4294967296) / 4294967296) % 4294967296 + x % 4294967296 * (y / 4294967296)) / 4294967296 < 18446744073709551616 := by omega
  go_enter Try.func90, Try.ntmps90
  go_wp2
  simp only [Mul64.maskN x hx, Mul64.maskN y hy, Mul64.divN, Mul64.mulN, Mul64.addN, Mul64.wrapN _ bd, Mul64.wrapN _ bb', Mul64.wrapN _ bt, Mul64.maskN _ bt, Mul64.wrapN _ bc', Mul64.wrapN _ bw, Mul64.wrapN _ ba', Mul64.wrapN _ bh1, Mul64.wrapN _ bh, Mul64.wrapM (x * y)]
  rw [hhi]
  go_ret2
  exact ⟨rfl, rfl⟩

theorem mul_ex (x y : Nat) (hx : x < 18446744073709551616) (hy : y < 18446744073709551616) : ∃ h l : Nat,
    Hid (∀ w : World, Calls Try.prog 90 #[.int .u64 (x : Int), .int .u64 (y : Int)] w fun e w' => e = .returned (.tuple #[.int .u64 (h : Int), .int .u64 (l : Int)]) ∧ w' = w) ∧
    h * 18446744073709551616 + l = x * y ∧ l < 18446744073709551616 ∧ h < 18446744073709551616 := by
  have hxy : x * y ≤ 18446744073709551615 * 18446744073709551615 := Nat.mul_le_mul (by omega) (by omega)
  exact ⟨_, _, Lib.hid (mul_any x y hx hy), by omega, by omega, by omega⟩

theorem add_ex (x y c : Nat) (hc : c ≤ 1) : ∃ z d : Nat,
    (∀ w : World, (callFunc 91 #[.int .u64 (x : Int), .int .u64 (y : Int), .int .u64 (c : Int)]).run Try.prog w = .ok (.value (.tuple #[.int .u64 (z : Int), .int .u64 (d : Int)])) w) ∧
    z + d * 18446744073709551616 = x + y + c ∧ z < 18446744073709551616 := by
  refine ⟨(x + y + c) % 18446744073709551616, (x + y + c) / 18446744073709551616, fun w => ?_, by omega, by omega⟩
  rw [run_callFunc_extern Try.func91 (by kernel_rfl) (by kernel_rfl) (by kernel_rfl) (e := add64Entry) (by kernel_rfl), run_add64 x y c (by omega) (by omega) (by omega) (by omega)]
  simp only [Result.andThen]
  congr 5 <;> omega

theorem sub_ex (x y b : Nat) (hx : x < 18446744073709551616) (hy : y < 18446744073709551616) (hb : b ≤ 1) : ∃ z d : Nat,
    (∀ w : World, (callFunc 97 #[.int .u64 (x : Int), .int .u64 (y : Int), .int .u64 (b : Int)]).run Try.prog w = .ok (.value (.tuple #[.int .u64 (z : Int), .int .u64 (d : Int)])) w) ∧
    z + y + b = x + d * 18446744073709551616 ∧ z < 18446744073709551616 ∧ d ≤ 1 := by
  refine ⟨(x + 18446744073709551616 - y - b) % 18446744073709551616, if x < y + b then 1 else 0, fun w => ?_, by split <;> omega, by omega, by split <;> omega⟩
  rw [run_callFunc_extern Try.func97 (by kernel_rfl) (by kernel_rfl) (by kernel_rfl) (e := sub64Entry) (by kernel_rfl), run_sub64 x y b hb]
  rfl

/-- four words, the lowest first -/
def val4 (a b c d : Nat) : Nat := a + b * 18446744073709551616 + c * 340282366920938463463374607431768211456 + d * 6277101735386680763835789423207666416102355444464034512896

end Go.Proofs.Ytfejabfmhddepaa

namespace Go.Proofs.Ytfejabfmhddepaa
set_option linter.unusedVariables false
set_option maxRecDepth 100000

/-- the greatest number that fits, bit by bit: k bits are still to be asked, r has been found -/
def grt (F : Nat → Bool) : Nat → Nat → Nat
  | 0, r => r
  | k + 1, r => grt F k (if F (r + 2 ^ k) then r + 2 ^ k else r)

theorem grt_spec (F : Nat → Bool) (hm : ∀ x y, x ≤ y → F y = true → F x = true) : ∀ k r, F r = true →
    r ≤ grt F k r ∧ grt F k r < r + 2 ^ k ∧ F (grt F k r) = true ∧ (grt F k r + 1 < r + 2 ^ k → F (grt F k r + 1) = false) := by
  intro k
  induction k with
  | zero => intro r hr; exact ⟨Nat.le_refl _, by simp [grt], hr, fun h => by simp [grt] at h⟩
  | succ k ih =>
    intro r hr
    have e : 2 ^ (k + 1) = 2 ^ k + 2 ^ k := by rw [Nat.pow_succ]; omega
    have hp : 0 < 2 ^ k := Nat.two_pow_pos k
    unfold grt
    by_cases h : F (r + 2 ^ k) = true
    · rw [if_pos h]
      obtain ⟨a, b, c, d⟩ := ih (r + 2 ^ k) h
      exact ⟨by omega, by omega, c, fun g => d (by omega)⟩
    · rw [if_neg h]
      obtain ⟨a, b, c, d⟩ := ih r hr
      refine ⟨a, by omega, c, fun g => ?_⟩
      by_cases g2 : grt F k r + 1 < r + 2 ^ k
      · exact d g2
      · have : grt F k r + 1 = r + 2 ^ k := by omega
        rw [this]
        simpa using h

/-- the square (or, where c, the cube) -/
def pw (c : Bool) (y : Nat) : Nat := if c then y * y * y else y * y
/-- 2^64 as often -/
def sc (c : Bool) : Nat := if c then 6277101735386680763835789423207666416102355444464034512896 else 340282366920938463463374607431768211456

theorem mul3_le {x y : Nat} (h : x ≤ y) : x * x * x ≤ y * y * y := Nat.mul_le_mul (Nat.mul_le_mul h h) h
theorem pw_le (c : Bool) {x y : Nat} (h : x ≤ y) : pw c x ≤ pw c y := by
  unfold pw
  split
  · exact mul3_le h
  · exact Nat.mul_le_mul h h

def rt (c : Bool) (p : Nat) : Nat := grt (fun y => decide (pw c y ≤ p * sc c)) 80 0

theorem rt_spec (c : Bool) {p : Nat} (hp : p < 4294967296) : pw c (rt c p) ≤ p * sc c ∧ p * sc c < pw c (rt c p + 1) ∧ rt c p < 1208925819614629174706176 := by
  obtain ⟨-, b, h, d⟩ := grt_spec (fun y => decide (pw c y ≤ p * sc c)) (fun x y hxy hy => by
    have := pw_le c hxy
    simp at hy ⊢; omega) 80 0 (by cases c <;> simp [pw])
  have e80 : (0 : Nat) + 2 ^ 80 = 1208925819614629174706176 := by decide
  rw [e80] at b d
  change rt c p < _ at b
  change decide (pw c (rt c p) ≤ _) = true at h
  change rt c p + 1 < _ → decide (pw c (rt c p + 1) ≤ _) = false at d
  refine ⟨by simpa using h, ?_, b⟩
  by_cases g : rt c p + 1 < 1208925819614629174706176
  · have := d g
    simp at this
    exact this
  · have e : rt c p + 1 = 1208925819614629174706176 := by omega
    rw [e]
    cases c <;> simp only [pw, sc] <;> simp <;> omega

theorem rt_eq (c : Bool) {p y : Nat} (hp : p < 4294967296) (h1 : pw c y ≤ p * sc c) (h2 : p * sc c < pw c (y + 1)) : rt c p = y := by
  obtain ⟨a, b, -⟩ := rt_spec c hp
  rcases Nat.lt_trichotomy (rt c p) y with h | h | h
  · have := pw_le c (show rt c p + 1 ≤ y from h); omega
  · exact h
  · have := pw_le c (show y + 1 ≤ rt c p from h); omega

/-- what Square (where c: Cube) answers -/
def sqv (c : Bool) (p : Nat) : Nat := if p < 4294967296 then rt c p % 18446744073709551616 else 0

theorem sqv_lt (c : Bool) (p : Nat) : sqv c p < 18446744073709551616 := by unfold sqv; split <;> omega

/-! The program's way: the whole part, then what stands behind the point. -/
def wh (c : Bool) (p : Nat) : Nat := grt (fun x => decide (pw c x ≤ p)) 16 0

theorem wh_spec (c : Bool) {p : Nat} (hp : p < 4294967296) : pw c (wh c p) ≤ p ∧ p < pw c (wh c p + 1) ∧ wh c p < 65536 := by
  obtain ⟨-, b, h, d⟩ := grt_spec (fun y => decide (pw c y ≤ p)) (fun x y hxy hy => by
    have := pw_le c hxy
    simp at hy ⊢; omega) 16 0 (by cases c <;> simp [pw])
  have e16 : (0 : Nat) + 2 ^ 16 = 65536 := by decide
  rw [e16] at b d
  change wh c p < _ at b
  change decide (pw c (wh c p) ≤ _) = true at h
  change wh c p + 1 < _ → decide (pw c (wh c p + 1) ≤ _) = false at d
  refine ⟨by simpa using h, ?_, b⟩
  by_cases g : wh c p + 1 < 65536
  · have := d g
    simp at this
    exact this
  · have e : wh c p + 1 = 65536 := by omega
    rw [e]
    cases c <;> simp only [pw] <;> simp <;> omega

/-- what is compared: the power of a * 2^64 + x, less that of a * 2^64 -/
def ex (c : Bool) (a x : Nat) : Nat :=
  if c then ((3 * a * 18446744073709551616 + x) * x + 3 * a * a * 340282366920938463463374607431768211456) * x else (2 * a * 18446744073709551616 + x) * x

theorem pw_ex (c : Bool) (a x : Nat) : pw c (a * 18446744073709551616 + x) = pw c a * sc c + ex c a x := by
  cases c <;> simp only [pw, sc, ex] <;> simp <;> grind

theorem ex_le (c : Bool) (a : Nat) {x y : Nat} (h : x ≤ y) : ex c a x ≤ ex c a y := by
  have h1 := pw_ex c a x
  have h2 := pw_ex c a y
  have h3 := pw_le c (show a * 18446744073709551616 + x ≤ a * 18446744073709551616 + y by omega)
  omega

def fr (c : Bool) (a rest : Nat) : Nat := grt (fun x => decide (ex c a x ≤ rest * sc c)) 64 0

theorem fr_rt (c : Bool) {p : Nat} (hp : p < 4294967296) : fr c (wh c p) (p - pw c (wh c p)) = rt c p % 18446744073709551616 := by
  obtain ⟨w1, w2, w3⟩ := wh_spec c hp
  generalize wh c p = a at *
  obtain ⟨-, b, h, d⟩ := grt_spec (fun x => decide (ex c a x ≤ (p - pw c a) * sc c)) (fun x y hxy hy => by
    have := ex_le c a hxy
    simp at hy ⊢; omega) 64 0 (by cases c <;> simp [ex])
  have e64 : (0 : Nat) + 2 ^ 64 = 18446744073709551616 := by decide
  rw [e64] at b d
  change fr c a (p - pw c a) < _ at b
  change decide (ex c a (fr c a (p - pw c a)) ≤ _) = true at h
  change fr c a (p - pw c a) + 1 < _ → decide (ex c a (fr c a (p - pw c a) + 1) ≤ _) = false at d
  generalize fr c a (p - pw c a) = x at *
  have es : (p - pw c a) * sc c + pw c a * sc c = p * sc c := by rw [← Nat.add_mul]; congr 1; omega
  have k1 : pw c (a * 18446744073709551616 + x) ≤ p * sc c := by
    rw [pw_ex]
    simp at h
    omega
  have k2 : p * sc c < pw c (a * 18446744073709551616 + x + 1) := by
    by_cases g : x + 1 < 18446744073709551616
    · have := d g
      rw [Nat.add_assoc, pw_ex]
      simp at this
      omega
    · have e : a * 18446744073709551616 + x + 1 = (a + 1) * 18446744073709551616 + 0 := by omega
      rw [e, pw_ex]
      have : p * sc c < pw c (a + 1) * sc c := Nat.mul_lt_mul_of_pos_right w2 (by cases c <;> simp [sc])
      omega
  rw [rt_eq c hp k1 k2]
  omega

/-! Whole roots, and neighbours. -/
theorem rt_whole (c : Bool) (a : Nat) (h : pw c a < 4294967296) : rt c (pw c a) = a * 18446744073709551616 := by
  have e := pw_ex c a 0
  have e1 := pw_ex c a 1
  have h0 : ex c a 0 = 0 := by cases c <;> simp [ex]
  have h1 : 0 < ex c a 1 := by cases c <;> simp [ex] <;> omega
  rw [Nat.add_zero, h0] at e
  exact rt_eq c h (by omega) (by omega)

theorem sqv_whole (c : Bool) (a : Nat) (h : pw c a < 4294967296) : sqv c (pw c a) = 0 := by
  unfold sqv
  rw [if_pos h, rt_whole c a h]
  omega

theorem step_small (c : Bool) (y : Nat) (hy : y < 1208925819614629174706176) : pw c (y + 1) ≤ pw c y + sc c := by
  cases c
  · simp only [pw, sc]
    have e : (y + 1) * (y + 1) = y * y + (2 * y + 1) := by grind
    simp
    omega
  · simp only [pw, sc]
    have e : (y + 1) * (y + 1) * (y + 1) = y * y * y + (3 * (y * y) + 3 * y + 1) := by grind
    have hyy : y * y ≤ 1208925819614629174706176 * 1208925819614629174706176 := Nat.mul_le_mul (by omega) (by omega)
    simp
    omega

theorem sqv_near (c : Bool) (a p : Nat) (h0 : pw c a ≤ p) (h1 : p + 1 < pw c (a + 1)) (h2 : p + 1 < 4294967296) : sqv c p < sqv c (p + 1) := by
  obtain ⟨x1, x2, x3⟩ := rt_spec c (show p < 4294967296 by omega)
  obtain ⟨y1, y2, y3⟩ := rt_spec c h2
  unfold sqv
  rw [if_pos (by omega), if_pos h2]
  have hs : 0 < sc c := by cases c <;> simp [sc]
  have ep : (p + 1) * sc c = p * sc c + sc c := by rw [Nat.add_mul, Nat.one_mul]
  -- both lie from a on and below a + 1
  have ea : pw c (a * 18446744073709551616) = pw c a * sc c := by
    have e := pw_ex c a 0
    have h0 : ex c a 0 = 0 := by cases c <;> simp [ex]
    rw [Nat.add_zero, h0] at e
    omega
  have eb : pw c ((a + 1) * 18446744073709551616) = pw c (a + 1) * sc c := by
    have e := pw_ex c (a + 1) 0
    have h0 : ex c (a + 1) 0 = 0 := by cases c <;> simp [ex]
    rw [Nat.add_zero, h0] at e
    omega
  have la : pw c a * sc c ≤ p * sc c := Nat.mul_le_mul_right _ h0
  have lb : (p + 1) * sc c < pw c (a + 1) * sc c := Nat.mul_lt_mul_of_pos_right h1 hs
  have l1 : a * 18446744073709551616 ≤ rt c p := by
    rcases Nat.lt_or_ge (rt c p) (a * 18446744073709551616) with g | g
    · have := pw_le c (show rt c p + 1 ≤ a * 18446744073709551616 from g); omega
    · exact g
  have l2 : rt c (p + 1) < (a + 1) * 18446744073709551616 := by
    rcases Nat.lt_or_ge (rt c (p + 1)) ((a + 1) * 18446744073709551616) with g | g
    · exact g
    · have := pw_le c g; omega
  have l3 : rt c p < rt c (p + 1) := by
    rcases Nat.lt_or_ge (rt c p) (rt c (p + 1)) with g | g
    · exact g
    · have k1 := pw_le c (show rt c (p + 1) + 1 ≤ rt c p + 1 by omega)
      have k2 := step_small c (rt c p) x3
      omega
  omega

/-! Primes. -/
/-- of a number from 2 on: no smaller one from 2 on divides it -/
def isP (n : Nat) : Bool := (List.range n).all (fun d => Nat.ble d 1 || !(Nat.beq (n % d) 0))
def pl (x : Nat) : List Nat := (List.range x).filter (fun n => Nat.ble 2 n && isP n)

theorem isP_iff {n : Nat} : isP n = true ↔ ∀ d, 2 ≤ d → d < n → n % d ≠ 0 := by
  simp only [isP, List.all_eq_true, List.mem_range, Bool.or_eq_true, Nat.ble_eq, Bool.not_eq_true']
  constructor
  · intro h d h2 hd e
    rcases h d hd with g | g
    · omega
    · rw [e] at g; cases g
  · intro h d hd
    rcases Nat.lt_or_ge 1 d with g | g
    · refine .inr ?_
      have := h d g hd
      cases hb : Nat.beq (n % d) 0
      · rfl
      · exact absurd (Nat.eq_of_beq_eq_true hb) this
    · exact .inl g

theorem mem_pl {x n : Nat} : n ∈ pl x ↔ n < x ∧ 2 ≤ n ∧ isP n = true := by
  simp [pl, List.mem_filter]

theorem has_prime : ∀ d, 2 ≤ d → ∃ q, 2 ≤ q ∧ q ≤ d ∧ isP q = true ∧ d % q = 0 := by
  intro d
  induction d using Nat.strongRecOn with
  | ind d ih =>
    intro h
    by_cases hp : isP d = true
    · exact ⟨d, h, Nat.le_refl _, hp, Nat.mod_self d⟩
    · have hne : ¬ ∀ e, 2 ≤ e → e < d → d % e ≠ 0 := fun g => hp (isP_iff.2 g)
      obtain ⟨e, h2, hlt, h0⟩ : ∃ e, 2 ≤ e ∧ e < d ∧ d % e = 0 := by
        apply Classical.byContradiction
        intro hno
        exact hne fun e a b c => hno ⟨e, a, b, c⟩
      obtain ⟨q, q2, qe, qp, q0⟩ := ih e hlt h2
      exact ⟨q, q2, by omega, qp, Nat.mod_eq_zero_of_dvd (Nat.dvd_trans (Nat.dvd_of_mod_eq_zero q0) (Nat.dvd_of_mod_eq_zero h0))⟩

/-- a number that no smaller prime divides is one -/
theorem isP_any {x : Nat} (hx : 2 ≤ x) : isP x = !((pl x).any fun q => decide (x % q = 0)) := by
  cases hp : isP x
  · have hne : ¬ ∀ e, 2 ≤ e → e < x → x % e ≠ 0 := fun g => by rw [isP_iff.2 g] at hp; cases hp
    obtain ⟨e, h2, hlt, h0⟩ : ∃ e, 2 ≤ e ∧ e < x ∧ x % e = 0 := by
      apply Classical.byContradiction
      intro hno
      exact hne fun e a b c => hno ⟨e, a, b, c⟩
    obtain ⟨q, q2, qe, qp, q0⟩ := has_prime e h2
    have : (pl x).any (fun q => decide (x % q = 0)) = true := by
      rw [List.any_eq_true]
      exact ⟨q, mem_pl.2 ⟨by omega, q2, qp⟩, by simp; exact Nat.mod_eq_zero_of_dvd (Nat.dvd_trans (Nat.dvd_of_mod_eq_zero q0) (Nat.dvd_of_mod_eq_zero h0))⟩
    rw [this]; rfl
  · have : (pl x).any (fun q => decide (x % q = 0)) = false := by
      rw [List.any_eq_false]
      intro q hq
      obtain ⟨a, b, -⟩ := mem_pl.1 hq
      have := isP_iff.1 hp q b a
      simpa using this
    rw [this]; rfl

theorem pl_succ (x : Nat) (hx : 2 ≤ x) : pl (x + 1) = if isP x then pl x ++ [x] else pl x := by
  unfold pl
  have h2 : Nat.ble 2 x = true := by rw [Nat.ble_eq]; exact hx
  rw [List.range_succ, List.filter_append]
  cases h : isP x <;> simp [h, h2]

theorem pl_prefix {x y : Nat} (h : x ≤ y) : pl x <+: pl y := by
  obtain ⟨d, rfl⟩ : ∃ d, y = x + d := ⟨y - x, by omega⟩
  clear h
  induction d with
  | zero => exact List.prefix_refl _
  | succ d ih =>
    refine List.IsPrefix.trans ih ?_
    unfold pl
    rw [show x + (d + 1) = (x + d) + 1 by omega, List.range_succ, List.filter_append]
    exact List.prefix_append _ _

def P100 : List Nat := [2, 3, 5, 7, 11, 13, 17, 19, 23, 29, 31, 37, 41, 43, 47, 53, 59, 61, 67, 71, 73, 79, 83, 89, 97, 101, 103, 107, 109, 113, 127, 131, 137, 139, 149, 151, 157, 163, 167, 173, 179, 181, 191, 193, 197, 199, 211, 223, 227, 229, 233, 239, 241, 251, 257, 263, 269, 271, 277, 281, 283, 293, 307, 311, 313, 317, 331, 337, 347, 349, 353, 359, 367, 373, 379, 383, 389, 397, 401, 409, 419, 421, 431, 433, 439, 443, 449, 457, 461, 463, 467, 479, 487, 491, 499, 503, 509, 521, 523, 541]

theorem pl_all : pl 542 = P100 := by decide +kernel
theorem P100_len : P100.length = 100 := by decide

theorem pl_take {x : Nat} (hx : x ≤ 542) : pl x = P100.take (pl x).length := by
  have := List.prefix_iff_eq_take.1 (pl_prefix hx)
  rw [pl_all] at this
  exact this

theorem pl_len_le {x : Nat} (hx : x ≤ 542) : (pl x).length ≤ 100 := by
  have := (pl_prefix hx).length_le
  rw [pl_all, P100_len] at this
  exact this

theorem pl_two : pl 2 = [] := by decide

theorem P100_lt : ∀ x ∈ P100, x < 542 := by decide
end Go.Proofs.Ytfejabfmhddepaa

namespace Go.Proofs.Ytfejabfmhddepaa
open Go.RowKit
set_option linter.unusedVariables false
set_option maxRecDepth 100000

theorem times_sum (x0 x1 x2 y : Nat) : val4 x0 x1 x2 0 * y = x0 * y + (x1 * y) * 18446744073709551616 + (x2 * y) * 340282366920938463463374607431768211456 := by
  have h : ∀ a b c : Nat, (x0 + x1 * a + x2 * b + 0 * c) * y = x0 * y + (x1 * y) * a + (x2 * y) * b := by intro a b c; grind
  exact h _ _ _

end Go.Proofs.Ytfejabfmhddepaa

namespace Go.Proofs.Ytfejabfmhddepaa
open Go.RowKit
set_option linter.unusedVariables false
set_option maxRecDepth 100000

/-- the bit that is asked when j are left -/
def hb : Nat → Nat | 0 => 0 | j + 1 => 2 ^ j

theorem hb_half (i : Nat) : 2 ^ i / 2 = hb i := by
  cases i with
  | zero => rfl
  | succ i => simp only [hb]; rw [Nat.pow_succ]; omega

theorem or_add {r i : Nat} (h : 2 ^ (i + 1) ∣ r) : r ||| 2 ^ i = r + 2 ^ i := by
  obtain ⟨q, rfl⟩ := h
  exact (Nat.two_pow_add_eq_or_of_lt (i := i + 1) (b := 2 ^ i) (by rw [Nat.pow_succ]; have := Nat.two_pow_pos i; omega) q).symm

end Go.Proofs.Ytfejabfmhddepaa

namespace Go.Proofs.Ytfejabfmhddepaa
open Go.RowKit
set_option linter.unusedVariables false
set_option maxRecDepth 100000

/-- a cell stays behind a new block -/
theorem cell_alloc {w : World} {a : Addr} {v : Value} (h : w.cell? a = some v) (o : Obj) : (w.alloc o).cell? a = some v := by
  have := World.block_lt_of_cell? w _ h
  rw [((Below.refl w.heap.size w).alloc (Nat.le_refl _) o).cell this]; exact h
theorem cell_below {w w' : World} {a : Addr} {v : Value} (h : w.cell? a = some v) (hb : Below w.heap.size w w') : w'.cell? a = some v := by
  rw [hb.cell (World.block_lt_of_cell? w _ h)]; exact h
theorem below_next {w w1 w2 : World} (h : Below w.heap.size w w1) (h2 : Below w1.heap.size w1 w2) : Below w.heap.size w w2 := h.trans (h2.mono h.size)
theorem below_alloc {w w1 : World} (h : Below w.heap.size w w1) (o : Obj) : Below w.heap.size w (w1.alloc o) := h.alloc h.size o

theorem val4_two (x t : Nat) : val4 x t 0 0 = t * 18446744073709551616 + x := by unfold val4; omega
theorem val4_2 (r : Nat) : val4 0 0 r 0 = r * sc false := by
  have : sc false = 340282366920938463463374607431768211456 := by unfold sc; simp only [Bool.false_eq_true, if_false]
  rw [this]; unfold val4; omega
theorem val4_3 (r : Nat) : val4 0 0 0 r = r * sc true := by
  have : sc true = 6277101735386680763835789423207666416102355444464034512896 := by unfold sc; simp only [if_true]
  rw [this]; unfold val4; omega
theorem ex_sq (a x : Nat) : ex false a x = (2 * a * 18446744073709551616 + x) * x := by unfold ex; simp only [Bool.false_eq_true, if_false]
theorem ex_cu (a x : Nat) : ex true a x = ((3 * a * 18446744073709551616 + x) * x + 3 * a * a * 340282366920938463463374607431768211456) * x := by unfold ex; simp only [if_true]
theorem val4_up (a b c m : Nat) : val4 a b (c + m) 0 = val4 a b c 0 + m * 340282366920938463463374607431768211456 := by unfold val4; omega

end Go.Proofs.Ytfejabfmhddepaa

namespace Go.Proofs.Ytfejabfmhddepaa
open Go.RowKit
set_option linter.unusedVariables false
set_option maxRecDepth 100000

theorem lt16 {x : Nat} (h : x < 2 ^ 16) : x < 65536 := by have e : (2 : Nat) ^ 16 = 65536 := (by decide); omega
theorem lt64 {x : Nat} (h : x < 2 ^ 64) : x < 18446744073709551616 := by have e : (2 : Nat) ^ 64 = 18446744073709551616 := (by decide); omega

end Go.Proofs.Ytfejabfmhddepaa

namespace Go.Proofs.Ytfejabfmhddepaa
open Go.RowKit
set_option linter.unusedVariables false
set_option maxRecDepth 100000

theorem info64 : (Try.prog.info? 24).map (fun i => (i.zero, i.size, i.bytes)) = some (some (.int .u64 0), 1, 8) := by kernel_rfl

theorem make_cap64 (k : Nat) (hk : k ≤ 2147483648) (u : World) : (Instr.makeSlice 102 (.int .i64 0) (.int .i64 (k : Int))).run Try.prog u =
      .ok (.slice (some ⟨u.heap.size, 0, none⟩) 0 k) (u.alloc (.cells (madeCells #[.int .u64 0] k) 24)) := by
  obtain ⟨i0, hi, hz0, hz1, hz2⟩ := info_parts info64
  have h := run_make (P := Try.prog) u 102 24 i0 (.int .u64 0) Try.underlying102 hi hz0 .i64 .i64 0 (k : Int) (by omega) (by omega) (by rw [hz2]; omega) (by omega)
  simpa [hz1, Value.cells] using h
theorem cap_made64 (w : World) (k : Nat) (hk : k ≤ 2147483648) : Uo 24 (w.alloc (.cells (madeCells #[.int .u64 0] k) 24)) w.heap.size (.slice (some ⟨w.heap.size, 0, none⟩) 0 k) [] :=
  ⟨by simp, .inr ⟨w.heap.size, k, _, rfl, Nat.le_refl _, heap_alloc_new _ _, Nat.zero_le _, by unfold maxLen; omega, by simp [size_madeCells], by simp⟩⟩
theorem make_full64 (k : Nat) (hk : k ≤ 2147483648) (u : World) : (Instr.makeSlice 102 (.int .i64 (k : Int)) (.int .i64 (k : Int))).run Try.prog u =
      .ok (.slice (some ⟨u.heap.size, 0, none⟩) k k) (u.alloc (.cells (madeCells #[.int .u64 0] k) 24)) := by
  obtain ⟨i0, hi, hz0, hz1, hz2⟩ := info_parts info64
  have h := run_make (P := Try.prog) u 102 24 i0 (.int .u64 0) Try.underlying102 hi hz0 .i64 .i64 (k : Int) (k : Int) (by omega) (by omega) (by rw [hz2]; omega) (by omega)
  simpa [hz1, Value.cells] using h
theorem own_made64 (w : World) (k : Nat) (hk : k ≤ 2147483648) : Uo 24 (w.alloc (.cells (madeCells #[.int .u64 0] k) 24)) w.heap.size (.slice (some ⟨w.heap.size, 0, none⟩) k k) (List.replicate k 0) := by
  have h := World.ownsRow_lit (base := w.heap.size) (e := 24) (size := 1) w (madeCells #[.int .u64 0] k) k (Nat.le_refl _) (by unfold maxLen; omega) (by simp [size_madeCells])
  unfold Uo
  rw [toList_madeCells_one] at h
  simpa [List.map_replicate, uval] using h
theorem us_lit1 (w : World) (E : TypeId) (x : Nat) : Us (w.alloc (.cells #[.int .u64 (x : Int)] E)) (some ⟨w.heap.size, 0, none⟩) [x] := fun _ =>
  ⟨_, _, rfl, fun j hj => by
    have : j = 0 := by simpa using hj
    subst this
    have := heap_alloc_new w (.cells #[.int .u64 (x : Int)] E)
    rw [cell_of_row _ _ _ _ _ _ this]
    simp⟩

def clampN (n : Int) : Nat := (max 0 (min n 100)).toNat

theorem Uo.fresh {E : TypeId} {w : World} {base : Nat} {v : Value} {l : List Nat} (h : Uo E w base v l) : ∀ k, v.ownBlock = some k → base ≤ k := by
  intro k hk
  rcases h.2 with ⟨rfl, _⟩ | ⟨g, cap, cur, rfl, hb, _⟩
  · simp [Value.ownBlock] at hk
  · simp [Value.ownBlock] at hk
    omega

def NIs (n : Nat) (w : World) (s : Value) (w' : World) : Prop := s = .int .i64 (n : Int) ∧ w' = w

end Go.Proofs.Ytfejabfmhddepaa

