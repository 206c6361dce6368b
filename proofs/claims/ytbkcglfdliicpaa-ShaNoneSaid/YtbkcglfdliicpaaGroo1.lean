/- Plain words for slices of uint64: 'Us w A l': a slice value with address A and length l.length reads, in world w, as the numbers l. 'Uo E w base v l': the slice value v owns the numbers l in a block from base on. No program is named here. math/bits: Mul64, Add64, Sub64, each with its answer under names; then roots.times and roots.atMost. Roots and primes, plainly: a number built bit by bit; the root of p by its first 64 bits behind the point; the first primes. No program is named here. roots.times; the four closures; roots.greatest. roots.greatest, whatever function value it is given. The closures of roots.Square and Cube, and the two functions themselves. The contracts of roots.Square and roots.Cube. The contracts of roots.divisible and roots.Primes. -/
import Derived.Test.YtbkcglfdliicpaaGbase
import Derived.Shelf.Bits.Mul64
import Derived.Shelf.Spec.BitsCarry
namespace Go.Proofs.Ytbkcglfdliicpaa
open Go.RowKit
set_option linter.unusedVariables false
set_option maxRecDepth 100000

def Us (w : World) (A : Option Addr) (l : List Nat) : Prop :=
  0 < l.length → ∃ b o, A = some ⟨b, o, none⟩ ∧ ∀ j, j < l.length → w.cell? ⟨b, o + j, none⟩ = some (.int .u64 ((l.getD j 0 : Nat) : Int))


theorem Us.nil_ (w : World) (A : Option Addr) : Us w A [] := fun h => absurd h (by simp)

theorem Us.at_ {w : World} {A : Option Addr} {l : List Nat} (h : Us w A l) {k : Nat} (hk : k < l.length) :
    ∃ b o, A = some ⟨b, o, none⟩ ∧ w.cell? ⟨b, o + k, none⟩ = some (.int .u64 ((l.getD k 0 : Nat) : Int)) := by
  obtain ⟨b, o, e, hc⟩ := h (by omega)
  exact ⟨b, o, e, hc k hk⟩

theorem Us.drewN {w : World} {A : Option Addr} {l : List Nat} (h : Us w A l) (n : Nat) : Us (w.drewN n) A l := h

theorem Us.below {w w' : World} {A : Option Addr} {l : List Nat} (h : Us w A l) (hb : Below w.heap.size w w') : Us w' A l := fun hl => by
  obtain ⟨b, o, e, hc⟩ := h hl
  refine ⟨b, o, e, fun j hj => ?_⟩
  have hcj := hc j hj
  have hlt := World.block_lt_of_cell? w _ hcj
  rw [hb.cell hlt]
  exact hcj



/-- the value of a byte -/
def uval (x : Nat) : Value := .int .u64 (x : Int)

theorem uval_one (x : Nat) : (uval x).oneCell' = true := rfl

/-- the cells that Us names, in the spelling of the append laws -/
theorem Us.news {w : World} {a : Addr} {l : List Nat} (h : Us w (some a) l) : ∀ j u, (l.map uval)[j]? = some u → w.cell? (a.add j) = some u := by
  intro j u hu
  have hj : j < l.length := by
    rcases Nat.lt_or_ge j l.length with h | h
    · exact h
    · rw [List.getElem?_eq_none (by simpa using h)] at hu; cases hu
  obtain ⟨b, o, e, hc⟩ := h (by omega)
  injection e with e
  subst e
  have hadd : (⟨b, o, none⟩ : Addr).add j = ⟨b, o + j, none⟩ := by unfold Addr.add; split <;> simp_all
  rw [hadd, hc j hj]
  rw [List.getElem?_map, List.getElem?_eq_getElem hj] at hu
  simp at hu
  subst hu
  simp [uval, List.getD, List.getElem?_eq_getElem hj]

/-- the slice value v owns the bytes l, in a block from base on -/
def Uo (E : TypeId) (w : World) (base : Nat) (v : Value) (l : List Nat) : Prop := w.ownsRow base E 1 v l.length (l.map uval)

theorem Uo.nil_ (E : TypeId) (w : World) (base : Nat) : Uo E w base (.slice none 0 0) [] := World.ownsRow_nil w base E 1

theorem Uo.form {E : TypeId} {w : World} {base : Nat} {v : Value} {l : List Nat} (h : Uo E w base v l) :
    ∃ A c, v = .slice A l.length c ∧ Us w A l ∧ (A = none ∨ ∃ g, A = some ⟨g, 0, none⟩ ∧ base ≤ g ∧ g < w.heap.size) := by
  rcases h.2 with ⟨rfl, hn⟩ | ⟨g, cap, cur, rfl, hb, hg, hnc, hcm, hcs, htake⟩
  · have : l = [] := List.eq_nil_of_length_eq_zero hn
    subst this
    exact ⟨none, 0, rfl, Us.nil_ _ _, .inl rfl⟩
  · refine ⟨_, cap, rfl, fun hl => ⟨g, 0, rfl, fun j hj => ?_⟩, .inr ⟨g, rfl, hb, (Array.getElem?_eq_some_iff.1 hg).1⟩⟩
    have := World.ownsRow.cellAt h j (by omega)
    rw [Nat.zero_add, this, List.getElem?_map, List.getElem?_eq_getElem hj]
    simp [uval, List.getD, List.getElem?_eq_getElem hj]

theorem Uo.bs {E : TypeId} {w : World} {base : Nat} {A : Option Addr} {n c : Nat} {l : List Nat} (h : Uo E w base (.slice A n c) l) : Us w A l := by
  obtain ⟨A', c', e, hb, _⟩ := h.form
  injection e with e1 e2 e3
  subst e1
  exact hb

theorem Uo.below {E : TypeId} {w w' : World} {base : Nat} {v : Value} {l : List Nat} (h : Uo E w base v l) (hb : Below w.heap.size w w') : Uo E w' base v l := by
  refine ⟨h.1, ?_⟩
  rcases h.2 with hn | ⟨g, cap, cur, rfl, hb', hg, rest⟩
  · exact .inl hn
  · refine .inr ⟨g, cap, cur, rfl, hb', ?_, rest⟩
    rw [hb.block g (Array.getElem?_eq_some_iff.1 hg).1]
    exact hg

theorem Uo.drewN {E : TypeId} {w : World} {base : Nat} {v : Value} {l : List Nat} (h : Uo E w base v l) (n : Nat) : Uo E (w.drewN n) base v l := h

theorem Uo.low {E : TypeId} {w : World} {base base' : Nat} {v : Value} {l : List Nat} (h : Uo E w base v l) (hb : base' ≤ base) : Uo E w base' v l := by
  refine ⟨h.1, ?_⟩
  rcases h.2 with hn | ⟨g, cap, cur, rfl, hb', rest⟩
  · exact .inl hn
  · exact .inr ⟨g, cap, cur, rfl, by omega, rest⟩

theorem Uo.len {E : TypeId} {w : World} {base : Nat} {A : Option Addr} {n c : Nat} {l : List Nat} (h : Uo E w base (.slice A n c) l) : n = l.length := by
  obtain ⟨A', c', e, _, _⟩ := h.form
  injection e with e1 e2 e3

theorem Uo.frozen {E : TypeId} {w : World} {base g n c : Nat} {l : List Nat} (h : Uo E w base (.slice (some ⟨g, 0, none⟩) n c) l) (k : Nat) : w.frozen? ⟨g, k, none⟩ = false := by
  have := h.len
  subst this
  exact World.ownsRow.frozenAt h k

/-- a store into an owned row -/
theorem Uo.set_ {E : TypeId} {w : World} {base g n c : Nat} {l : List Nat} (h : Uo E w base (.slice (some ⟨g, 0, none⟩) n c) l) (k : Nat) (x : Nat) :
    Uo E (w.setCell ⟨g, k, none⟩ (uval x)) base (.slice (some ⟨g, 0, none⟩) n c) (l.set k x) := by
  obtain ⟨A', c', e, _, _⟩ := h.form
  injection e with e1 e2 e3
  subst e2
  have := (World.ownsRow.stored h k (uval x)).1
  unfold Uo
  rw [List.map_set, List.length_set]
  exact this

section
variable {P : Program}

theorem run_append_nil_us (w : World) (base : Nat) (t ty e : TypeId) (i : TypeInfo) (ht : P.underlying t = some (.slice e)) (hi : P.info? e = some i)
    (v : Value) (l : List Nat) (hown : Uo e w base v l) (c : Nat) : (Builtin.append_ #[t, t] ty #[v, .slice none 0 c]).run P w = .ok v w := by
  rcases hown.2 with ⟨rfl, _⟩ | ⟨g, cap, cur, rfl, _, _, hnc, _⟩
  · simp [Builtin.append_, run_underlying ht, sizeOf, typeInfo, hi, Builtin.lenOf, Builtin.firstCells]
  · simp [Builtin.append_, run_underlying ht, sizeOf, typeInfo, hi, Builtin.lenOf, Builtin.firstCells, hnc, storeCells]

/-- append of what reads as m to what owns l -/
theorem run_append_us (w : World) (base : Nat) (t ty e : TypeId) (ht : P.underlying t = some (.slice e))
    (he : (P.info? e).map (fun i => (i.zero, i.size, i.bytes)) = some (some (.int .u64 0), 1, 8))
    (v : Value) (l : List Nat) (hown : Uo e w base v l) (A : Option Addr) (m : List Nat) (c : Nat) (hm : Us w A m)
    (hlen : l.length + m.length ≤ 2147483648) (hbase : base ≤ w.heap.size) :
    ∃ v' w', (Builtin.append_ #[t, t] ty #[v, .slice A m.length c]).run P w = .ok v' w' ∧ Uo e w' base v' (l ++ m) ∧ w.grownBy w' v.ownBlock := by
  obtain ⟨i0, hi, hz0, hz1, hz2⟩ := info_parts he
  rcases A with _ | a
  · have h0 : m.length = 0 := by
      rcases Nat.eq_zero_or_pos m.length with h | h
      · exact h
      · obtain ⟨b, o, e', _⟩ := hm h; cases e'
    have : m = [] := List.eq_nil_of_length_eq_zero h0
    subst this
    exact ⟨v, w, run_append_nil_us w base t ty e i0 ht hi v l hown c, by simpa using hown, World.grownBy.refl w _⟩
  · obtain ⟨v', w', hr, h2, h3, _⟩ := run_append_own (P := P) w base t ty e i0 (.int .u64 0) 1 8 ht hi hz0 hz1 hz2 rfl (by decide) v l.length (l.map uval) hown a m.length c (m.map uval) (by simp)
      hm.news (fun u hu => by obtain ⟨x, _, rfl⟩ := List.mem_map.1 hu; rfl) (by unfold maxLen; omega) (by omega) hbase
    refine ⟨v', w', hr, ?_, h3⟩
    unfold Uo
    rw [List.map_append, List.length_append]
    exact h2

theorem wpList_append_us {w : World} {ops : Array Oper} {rest : List Oper} {o : Oper} {a : Act} {Q : Exit → Act → World → Prop} (hgd : o.guard = none) (s x : Operand) (t : TypeId)
    (ho : o.op = .call { callee := .builtin .append, args := #[s, x], argTypes := #[t, t] }) (base : Nat) (e : TypeId) (ht : P.underlying t = some (.slice e))
    (he : (P.info? e).map (fun i => (i.zero, i.size, i.bytes)) = some (some (.int .u64 0), 1, 8))
    (v : Value) (l : List Nat) (hs : a.eval s = v) (hown : Uo e w base v l) (A : Option Addr) (m : List Nat) (n c : Nat) (hx : a.eval x = .slice A n c) (hn : n = m.length) (hm : Us w A m)
    (hlen : l.length + m.length ≤ 2147483648) (hbase : base ≤ w.heap.size)
    (h : ∀ v' w', Uo e w' base v' (l ++ m) → w.grownBy w' v.ownBlock → wpList P ops Q rest (a.put o.dst v') w') : wpList P ops Q (o :: rest) a w := by
  subst hn
  refine wpList_plain hgd fun K hK => ?_
  obtain ⟨v', w', hrun, h2, h3⟩ := run_append_us (P := P) w base t o.type e ht he v l hown A m c hm hlen hbase
  unfold Oper.wp execOp
  simp only [ho, resolve, invoke, builtin, Sem.run_bind, Sem.run_pure, Result.andThen_ok, List.map_toArray, List.map_cons, List.map_nil, hs, hx, hrun]
  exact hK _ _ (h v' w' h2 h3)
end

/-- append, as one step of a region that draws -/
theorem step_append_us {P : Program} {ops : Array Oper} {o : Oper} {a : Act} {w : World} {K : Act → World → Prop} {Q : Exit → Act → World → Prop} {E : Prop} (hgd : o.guard = none) (s x : Operand) (t : TypeId)
    (ho : o.op = .call { callee := .builtin .append, args := #[s, x], argTypes := #[t, t] }) (base : Nat) (e : TypeId) (ht : P.underlying t = some (.slice e))
    (he : (P.info? e).map (fun i => (i.zero, i.size, i.bytes)) = some (some (.int .u64 0), 1, 8))
    (v : Value) (l : List Nat) (hs : a.eval s = v) (hown : Uo e w base v l) (A : Option Addr) (m : List Nat) (n c : Nat) (hx : a.eval x = .slice A n c) (hn : n = m.length) (hm : Us w A m)
    (hlen : l.length + m.length ≤ 2147483648) (hbase : base ≤ w.heap.size)
    (h : ∀ v' w', Uo e w' base v' (l ++ m) → w.grownBy w' v.ownBlock → K (a.put o.dst v') w') : if Region.wanted o (yielded ops a.tmps) = true then Oper.wp P o a w K Q else E := by
  have hw : Region.wanted o (yielded ops a.tmps) = true := by simp [Region.wanted, hgd]
  rw [if_pos hw]
  subst hn
  obtain ⟨v', w', hrun, h2, h3⟩ := run_append_us (P := P) w base t o.type e ht he v l hown A m c hm hlen hbase
  unfold Oper.wp execOp
  simp only [ho, resolve, invoke, builtin, Sem.run_bind, Sem.run_pure, Result.andThen_ok, List.map_toArray, List.map_cons, List.map_nil, hs, hx, hrun]
  exact h v' w' h2 h3

end Go.Proofs.Ytbkcglfdliicpaa

namespace Go.Proofs.Ytbkcglfdliicpaa
open Go.RowKit
set_option linter.unusedVariables false
set_option maxRecDepth 100000

set_option maxHeartbeats 1600000 in
theorem mul_any (x y : Nat) (hx : x < 18446744073709551616) (hy : y < 18446744073709551616) (w : World) :
    Calls Try.prog 64 #[.int .u64 x, .int .u64 y] w fun e w' => e = .returned (.tuple #[.int .u64 ((x * y / 18446744073709551616 : Nat) : Int), .int .u64 ((x * y % 18446744073709551616 : Nat) : Int)]) ∧ w' = w := by
  obtain ⟨bd, bt, bw, hhi⟩ := Lib.mul64_hi x y hx hy
  have ba := Lib.half_mul_le (a := x / 4294967296) (b := y / 4294967296) (by omega) (by omega)
  have bb := Lib.half_mul_le (a := x / 4294967296) (b := y % 4294967296) (by omega) (by omega)
  have bc := Lib.half_mul_le (a := x % 4294967296) (b := y / 4294967296) (by omega) (by omega)
  have ba' : x / 4294967296 * (y / 4294967296) < 18446744073709551616 := by omega
  have bb' : x / 4294967296 * (y % 4294967296) < 18446744073709551616 := by omega
  have bc' : x % 4294967296 * (y / 4294967296) < 18446744073709551616 := by omega
  have bh1 : x / 4294967296 * (y / 4294967296) + (x / 4294967296 * (y % 4294967296) + x % 4294967296 * (y % 4294967296) / 4294967296) / 4294967296 < 18446744073709551616 := by omega
  have bh : x / 4294967296 * (y / 4294967296) + (x / 4294967296 * (y % 4294967296) + x % 4294967296 * (y % 4294967296) / 4294967296) / 4294967296 + ((x / 4294967296 * (y % 4294967296) + x % 4294967296 * (y % 4294967296) / 4294967296) % 4294967296 + x % 4294967296 * (y / 4294967296)) / 4294967296 < 18446744073709551616 := by omega
  go_enter Try.func64, Try.ntmps64
  go_wp2
  simp only [Mul64.maskN x hx, Mul64.maskN y hy, Mul64.divN, Mul64.mulN, Mul64.addN, Mul64.wrapN _ bd, Mul64.wrapN _ bb', Mul64.wrapN _ bt, Mul64.maskN _ bt, Mul64.wrapN _ bc', Mul64.wrapN _ bw, Mul64.wrapN _ ba', Mul64.wrapN _ bh1, Mul64.wrapN _ bh, Mul64.wrapM (x * y)]
  rw [hhi]
  go_ret2
  exact ⟨rfl, rfl⟩

theorem mul_ex (x y : Nat) (hx : x < 18446744073709551616) (hy : y < 18446744073709551616) : ∃ h l : Nat,
    Hid (∀ w : World, Calls Try.prog 64 #[.int .u64 (x : Int), .int .u64 (y : Int)] w fun e w' => e = .returned (.tuple #[.int .u64 (h : Int), .int .u64 (l : Int)]) ∧ w' = w) ∧
    h * 18446744073709551616 + l = x * y ∧ l < 18446744073709551616 ∧ h < 18446744073709551616 := by
  have hxy : x * y ≤ 18446744073709551615 * 18446744073709551615 := Nat.mul_le_mul (by omega) (by omega)
  exact ⟨_, _, Lib.hid (mul_any x y hx hy), by omega, by omega, by omega⟩

theorem add_ex (x y c : Nat) (hc : c ≤ 1) : ∃ z d : Nat,
    (∀ w : World, (callFunc 65 #[.int .u64 (x : Int), .int .u64 (y : Int), .int .u64 (c : Int)]).run Try.prog w = .ok (.value (.tuple #[.int .u64 (z : Int), .int .u64 (d : Int)])) w) ∧
    z + d * 18446744073709551616 = x + y + c ∧ z < 18446744073709551616 := by
  refine ⟨(x + y + c) % 18446744073709551616, (x + y + c) / 18446744073709551616, fun w => ?_, by omega, by omega⟩
  rw [run_callFunc_extern Try.func65 (by kernel_rfl) (by kernel_rfl) (by kernel_rfl) (e := add64Entry) (by kernel_rfl), run_add64 x y c (by omega) (by omega) (by omega) (by omega)]
  simp only [Result.andThen]
  congr 5 <;> omega

theorem sub_ex (x y b : Nat) (hx : x < 18446744073709551616) (hy : y < 18446744073709551616) (hb : b ≤ 1) : ∃ z d : Nat,
    (∀ w : World, (callFunc 66 #[.int .u64 (x : Int), .int .u64 (y : Int), .int .u64 (b : Int)]).run Try.prog w = .ok (.value (.tuple #[.int .u64 (z : Int), .int .u64 (d : Int)])) w) ∧
    z + y + b = x + d * 18446744073709551616 ∧ z < 18446744073709551616 ∧ d ≤ 1 := by
  refine ⟨(x + 18446744073709551616 - y - b) % 18446744073709551616, if x < y + b then 1 else 0, fun w => ?_, by split <;> omega, by omega, by split <;> omega⟩
  rw [run_callFunc_extern Try.func66 (by kernel_rfl) (by kernel_rfl) (by kernel_rfl) (e := sub64Entry) (by kernel_rfl), run_sub64 x y b hb]
  rfl

/-- four words, the lowest first -/
def val4 (a b c d : Nat) : Nat := a + b * 18446744073709551616 + c * 340282366920938463463374607431768211456 + d * 6277101735386680763835789423207666416102355444464034512896

set_option maxHeartbeats 3200000 in
theorem atMost_any (a0 a1 a2 a3 b0 b1 b2 b3 : Nat) (ha0 : a0 < 18446744073709551616) (ha1 : a1 < 18446744073709551616) (ha2 : a2 < 18446744073709551616) (ha3 : a3 < 18446744073709551616)
    (hb0 : b0 < 18446744073709551616) (hb1 : b1 < 18446744073709551616) (hb2 : b2 < 18446744073709551616) (hb3 : b3 < 18446744073709551616) (w : World) :
    Calls Try.prog 53 #[.agg #[.int .u64 (a0 : Int), .int .u64 (a1 : Int), .int .u64 (a2 : Int), .int .u64 (a3 : Int)], .agg #[.int .u64 (b0 : Int), .int .u64 (b1 : Int), .int .u64 (b2 : Int), .int .u64 (b3 : Int)]] w fun e w' =>
      e = .returned (.bool (decide (val4 a0 a1 a2 a3 ≤ val4 b0 b1 b2 b3))) ∧ Below w.heap.size w w' := by
  obtain ⟨z0, d0, s0, e0, l0, k0⟩ := sub_ex b0 a0 0 hb0 ha0 (by omega)
  obtain ⟨z1, d1, s1, e1, l1, k1⟩ := sub_ex b1 a1 d0 hb1 ha1 k0
  obtain ⟨z2, d2, s2, e2, l2, k2⟩ := sub_ex b2 a2 d1 hb2 ha2 k1
  obtain ⟨z3, d3, s3, e3, l3, k3⟩ := sub_ex b3 a3 d2 hb3 ha3 k2
  have hd : Hid (decide (val4 a0 a1 a2 a3 ≤ val4 b0 b1 b2 b3) = ((d3 : Int) == 0)) := Lib.hid (by
    have hE : val4 z0 z1 z2 z3 + val4 a0 a1 a2 a3 = val4 b0 b1 b2 b3 + d3 * 115792089237316195423570985008687907853269984665640564039457584007913129639936 := by unfold val4; omega
    have hz : val4 z0 z1 z2 z3 < 115792089237316195423570985008687907853269984665640564039457584007913129639936 := by unfold val4; omega
    have hd3 : d3 = 0 ∨ d3 = 1 := by omega
    rcases hd3 with rfl | rfl
    · rw [decide_eq_true (by omega)]; rfl
    · rw [decide_eq_false (by omega)]; rfl)
  rw [hd.out]
  clear e0 e1 e2 e3 l0 l1 l2 l3 k0 k1 k2 k3 hd ha0 ha1 ha2 ha3 hb0 hb1 hb2 hb3
  simp only [Int.ofNat_zero] at s0
  go_enter Try.func53, Try.ntmps53
  go_wp2
  go_ret
  exact ⟨rfl, ((Below.refl _ _).alloc (Nat.le_refl _) _).alloc (by simp) _⟩
end Go.Proofs.Ytbkcglfdliicpaa

namespace Go.Proofs.Ytbkcglfdliicpaa
set_option linter.unusedVariables false
set_option maxRecDepth 100000

/-- the greatest number that fits, bit by bit: k bits are still to be asked, r has been found -/
def grt (F : Nat → Bool) : Nat → Nat → Nat
  | 0, r => r
  | k + 1, r => grt F k (if F (r + 2 ^ k) then r + 2 ^ k else r)

theorem grt_spec (F : Nat → Bool) (hm : ∀ x y, x ≤ y → F y = true → F x = true) : ∀ k r, F r = true →
    r ≤ grt F k r ∧ grt F k r < r + 2 ^ k ∧ F (grt F k r) = true ∧ (grt F k r + 1 < r + 2 ^ k → F (grt F k r + 1) = false) := by
  intro k
  induction k with
  | zero => intro r hr; exact ⟨Nat.le_refl _, by simp [grt], hr, fun h => by simp [grt] at h⟩
  | succ k ih =>
    intro r hr
    have e : 2 ^ (k + 1) = 2 ^ k + 2 ^ k := by rw [Nat.pow_succ]; omega
    have hp : 0 < 2 ^ k := Nat.two_pow_pos k
    unfold grt
    by_cases h : F (r + 2 ^ k) = true
    · rw [if_pos h]
      obtain ⟨a, b, c, d⟩ := ih (r + 2 ^ k) h
      exact ⟨by omega, by omega, c, fun g => d (by omega)⟩
    · rw [if_neg h]
      obtain ⟨a, b, c, d⟩ := ih r hr
      refine ⟨a, by omega, c, fun g => ?_⟩
      by_cases g2 : grt F k r + 1 < r + 2 ^ k
      · exact d g2
      · have : grt F k r + 1 = r + 2 ^ k := by omega
        rw [this]
        simpa using h

/-- the square (or, where c, the cube) -/
def pw (c : Bool) (y : Nat) : Nat := if c then y * y * y else y * y
/-- 2^64 as often -/
def sc (c : Bool) : Nat := if c then 6277101735386680763835789423207666416102355444464034512896 else 340282366920938463463374607431768211456

theorem mul3_le {x y : Nat} (h : x ≤ y) : x * x * x ≤ y * y * y := Nat.mul_le_mul (Nat.mul_le_mul h h) h
theorem pw_le (c : Bool) {x y : Nat} (h : x ≤ y) : pw c x ≤ pw c y := by
  unfold pw
  split
  · exact mul3_le h
  · exact Nat.mul_le_mul h h

def rt (c : Bool) (p : Nat) : Nat := grt (fun y => decide (pw c y ≤ p * sc c)) 80 0

theorem rt_spec (c : Bool) {p : Nat} (hp : p < 4294967296) : pw c (rt c p) ≤ p * sc c ∧ p * sc c < pw c (rt c p + 1) ∧ rt c p < 1208925819614629174706176 := by
  obtain ⟨-, b, h, d⟩ := grt_spec (fun y => decide (pw c y ≤ p * sc c)) (fun x y hxy hy => by
    have := pw_le c hxy
    simp at hy ⊢; omega) 80 0 (by cases c <;> simp [pw])
  have e80 : (0 : Nat) + 2 ^ 80 = 1208925819614629174706176 := by decide
  rw [e80] at b d
  change rt c p < _ at b
  change decide (pw c (rt c p) ≤ _) = true at h
  change rt c p + 1 < _ → decide (pw c (rt c p + 1) ≤ _) = false at d
  refine ⟨by simpa using h, ?_, b⟩
  by_cases g : rt c p + 1 < 1208925819614629174706176
  · have := d g
    simp at this
    exact this
  · have e : rt c p + 1 = 1208925819614629174706176 := by omega
    rw [e]
    cases c <;> simp only [pw, sc] <;> simp <;> omega

theorem rt_eq (c : Bool) {p y : Nat} (hp : p < 4294967296) (h1 : pw c y ≤ p * sc c) (h2 : p * sc c < pw c (y + 1)) : rt c p = y := by
  obtain ⟨a, b, -⟩ := rt_spec c hp
  rcases Nat.lt_trichotomy (rt c p) y with h | h | h
  · have := pw_le c (show rt c p + 1 ≤ y from h); omega
  · exact h
  · have := pw_le c (show y + 1 ≤ rt c p from h); omega

/-- what Square (where c: Cube) answers -/
def sqv (c : Bool) (p : Nat) : Nat := if p < 4294967296 then rt c p % 18446744073709551616 else 0

theorem sqv_lt (c : Bool) (p : Nat) : sqv c p < 18446744073709551616 := by unfold sqv; split <;> omega

/-! The program's way: the whole part, then what stands behind the point. -/
def wh (c : Bool) (p : Nat) : Nat := grt (fun x => decide (pw c x ≤ p)) 16 0

theorem wh_spec (c : Bool) {p : Nat} (hp : p < 4294967296) : pw c (wh c p) ≤ p ∧ p < pw c (wh c p + 1) ∧ wh c p < 65536 := by
  obtain ⟨-, b, h, d⟩ := grt_spec (fun y => decide (pw c y ≤ p)) (fun x y hxy hy => by
    have := pw_le c hxy
    simp at hy ⊢; omega) 16 0 (by cases c <;> simp [pw])
  have e16 : (0 : Nat) + 2 ^ 16 = 65536 := by decide
  rw [e16] at b d
  change wh c p < _ at b
  change decide (pw c (wh c p) ≤ _) = true at h
  change wh c p + 1 < _ → decide (pw c (wh c p + 1) ≤ _) = false at d
  refine ⟨by simpa using h, ?_, b⟩
  by_cases g : wh c p + 1 < 65536
  · have := d g
    simp at this
    exact this
  · have e : wh c p + 1 = 65536 := by omega
    rw [e]
    cases c <;> simp only [pw] <;> simp <;> omega

/-- what is compared: the power of a * 2^64 + x, less that of a * 2^64 -/
def ex (c : Bool) (a x : Nat) : Nat :=
  if c then ((3 * a * 18446744073709551616 + x) * x + 3 * a * a * 340282366920938463463374607431768211456) * x else (2 * a * 18446744073709551616 + x) * x

theorem pw_ex (c : Bool) (a x : Nat) : pw c (a * 18446744073709551616 + x) = pw c a * sc c + ex c a x := by
  cases c <;> simp only [pw, sc, ex] <;> simp <;> grind

theorem ex_le (c : Bool) (a : Nat) {x y : Nat} (h : x ≤ y) : ex c a x ≤ ex c a y := by
  have h1 := pw_ex c a x
  have h2 := pw_ex c a y
  have h3 := pw_le c (show a * 18446744073709551616 + x ≤ a * 18446744073709551616 + y by omega)
  omega

def fr (c : Bool) (a rest : Nat) : Nat := grt (fun x => decide (ex c a x ≤ rest * sc c)) 64 0

theorem fr_rt (c : Bool) {p : Nat} (hp : p < 4294967296) : fr c (wh c p) (p - pw c (wh c p)) = rt c p % 18446744073709551616 := by
  obtain ⟨w1, w2, w3⟩ := wh_spec c hp
  generalize wh c p = a at *
  obtain ⟨-, b, h, d⟩ := grt_spec (fun x => decide (ex c a x ≤ (p - pw c a) * sc c)) (fun x y hxy hy => by
    have := ex_le c a hxy
    simp at hy ⊢; omega) 64 0 (by cases c <;> simp [ex])
  have e64 : (0 : Nat) + 2 ^ 64 = 18446744073709551616 := by decide
  rw [e64] at b d
  change fr c a (p - pw c a) < _ at b
  change decide (ex c a (fr c a (p - pw c a)) ≤ _) = true at h
  change fr c a (p - pw c a) + 1 < _ → decide (ex c a (fr c a (p - pw c a) + 1) ≤ _) = false at d
  generalize fr c a (p - pw c a) = x at *
  have es : (p - pw c a) * sc c + pw c a * sc c = p * sc c := by rw [← Nat.add_mul]; congr 1; omega
  have k1 : pw c (a * 18446744073709551616 + x) ≤ p * sc c := by
    rw [pw_ex]
    simp at h
    omega
  have k2 : p * sc c < pw c (a * 18446744073709551616 + x + 1) := by
    by_cases g : x + 1 < 18446744073709551616
    · have := d g
      rw [Nat.add_assoc, pw_ex]
      simp at this
      omega
    · have e : a * 18446744073709551616 + x + 1 = (a + 1) * 18446744073709551616 + 0 := by omega
      rw [e, pw_ex]
      have : p * sc c < pw c (a + 1) * sc c := Nat.mul_lt_mul_of_pos_right w2 (by cases c <;> simp [sc])
      omega
  rw [rt_eq c hp k1 k2]
  omega

/-! Whole roots, and neighbours. -/
theorem rt_whole (c : Bool) (a : Nat) (h : pw c a < 4294967296) : rt c (pw c a) = a * 18446744073709551616 := by
  have e := pw_ex c a 0
  have e1 := pw_ex c a 1
  have h0 : ex c a 0 = 0 := by cases c <;> simp [ex]
  have h1 : 0 < ex c a 1 := by cases c <;> simp [ex] <;> omega
  rw [Nat.add_zero, h0] at e
  exact rt_eq c h (by omega) (by omega)

theorem sqv_whole (c : Bool) (a : Nat) (h : pw c a < 4294967296) : sqv c (pw c a) = 0 := by
  unfold sqv
  rw [if_pos h, rt_whole c a h]
  omega

theorem step_small (c : Bool) (y : Nat) (hy : y < 1208925819614629174706176) : pw c (y + 1) ≤ pw c y + sc c := by
  cases c
  · simp only [pw, sc]
    have e : (y + 1) * (y + 1) = y * y + (2 * y + 1) := by grind
    simp
    omega
  · simp only [pw, sc]
    have e : (y + 1) * (y + 1) * (y + 1) = y * y * y + (3 * (y * y) + 3 * y + 1) := by grind
    have hyy : y * y ≤ 1208925819614629174706176 * 1208925819614629174706176 := Nat.mul_le_mul (by omega) (by omega)
    simp
    omega

theorem sqv_near (c : Bool) (a p : Nat) (h0 : pw c a ≤ p) (h1 : p + 1 < pw c (a + 1)) (h2 : p + 1 < 4294967296) : sqv c p < sqv c (p + 1) := by
  obtain ⟨x1, x2, x3⟩ := rt_spec c (show p < 4294967296 by omega)
  obtain ⟨y1, y2, y3⟩ := rt_spec c h2
  unfold sqv
  rw [if_pos (by omega), if_pos h2]
  have hs : 0 < sc c := by cases c <;> simp [sc]
  have ep : (p + 1) * sc c = p * sc c + sc c := by rw [Nat.add_mul, Nat.one_mul]
  -- both lie from a on and below a + 1
  have ea : pw c (a * 18446744073709551616) = pw c a * sc c := by
    have e := pw_ex c a 0
    have h0 : ex c a 0 = 0 := by cases c <;> simp [ex]
    rw [Nat.add_zero, h0] at e
    omega
  have eb : pw c ((a + 1) * 18446744073709551616) = pw c (a + 1) * sc c := by
    have e := pw_ex c (a + 1) 0
    have h0 : ex c (a + 1) 0 = 0 := by cases c <;> simp [ex]
    rw [Nat.add_zero, h0] at e
    omega
  have la : pw c a * sc c ≤ p * sc c := Nat.mul_le_mul_right _ h0
  have lb : (p + 1) * sc c < pw c (a + 1) * sc c := Nat.mul_lt_mul_of_pos_right h1 hs
  have l1 : a * 18446744073709551616 ≤ rt c p := by
    rcases Nat.lt_or_ge (rt c p) (a * 18446744073709551616) with g | g
    · have := pw_le c (show rt c p + 1 ≤ a * 18446744073709551616 from g); omega
    · exact g
  have l2 : rt c (p + 1) < (a + 1) * 18446744073709551616 := by
    rcases Nat.lt_or_ge (rt c (p + 1)) ((a + 1) * 18446744073709551616) with g | g
    · exact g
    · have := pw_le c g; omega
  have l3 : rt c p < rt c (p + 1) := by
    rcases Nat.lt_or_ge (rt c p) (rt c (p + 1)) with g | g
    · exact g
    · have k1 := pw_le c (show rt c (p + 1) + 1 ≤ rt c p + 1 by omega)
      have k2 := step_small c (rt c p) x3
      omega
  omega

/-! Primes. -/
/-- of a number from 2 on: no smaller one from 2 on divides it -/
def isP (n : Nat) : Bool := (List.range n).all (fun d => Nat.ble d 1 || !(Nat.beq (n % d) 0))
def pl (x : Nat) : List Nat := (List.range x).filter (fun n => Nat.ble 2 n && isP n)

theorem isP_iff {n : Nat} : isP n = true ↔ ∀ d, 2 ≤ d → d < n → n % d ≠ 0 := by
  simp only [isP, List.all_eq_true, List.mem_range, Bool.or_eq_true, Nat.ble_eq, Bool.not_eq_true']
  constructor
  · intro h d h2 hd e
    rcases h d hd with g | g
    · omega
    · rw [e] at g; cases g
  · intro h d hd
    rcases Nat.lt_or_ge 1 d with g | g
    · refine .inr ?_
      have := h d g hd
      cases hb : Nat.beq (n % d) 0
      · rfl
      · exact absurd (Nat.eq_of_beq_eq_true hb) this
    · exact .inl g

theorem mem_pl {x n : Nat} : n ∈ pl x ↔ n < x ∧ 2 ≤ n ∧ isP n = true := by
  simp [pl, List.mem_filter]

theorem has_prime : ∀ d, 2 ≤ d → ∃ q, 2 ≤ q ∧ q ≤ d ∧ isP q = true ∧ d % q = 0 := by
  intro d
  induction d using Nat.strongRecOn with
  | ind d ih =>
    intro h
    by_cases hp : isP d = true
    · exact ⟨d, h, Nat.le_refl _, hp, Nat.mod_self d⟩
    · have hne : ¬ ∀ e, 2 ≤ e → e < d → d % e ≠ 0 := fun g => hp (isP_iff.2 g)
      obtain ⟨e, h2, hlt, h0⟩ : ∃ e, 2 ≤ e ∧ e < d ∧ d % e = 0 := by
        apply Classical.byContradiction
        intro hno
        exact hne fun e a b c => hno ⟨e, a, b, c⟩
      obtain ⟨q, q2, qe, qp, q0⟩ := ih e hlt h2
      exact ⟨q, q2, by omega, qp, Nat.mod_eq_zero_of_dvd (Nat.dvd_trans (Nat.dvd_of_mod_eq_zero q0) (Nat.dvd_of_mod_eq_zero h0))⟩

/-- a number that no smaller prime divides is one -/
theorem isP_any {x : Nat} (hx : 2 ≤ x) : isP x = !((pl x).any fun q => decide (x % q = 0)) := by
  cases hp : isP x
  · have hne : ¬ ∀ e, 2 ≤ e → e < x → x % e ≠ 0 := fun g => by rw [isP_iff.2 g] at hp; cases hp
    obtain ⟨e, h2, hlt, h0⟩ : ∃ e, 2 ≤ e ∧ e < x ∧ x % e = 0 := by
      apply Classical.byContradiction
      intro hno
      exact hne fun e a b c => hno ⟨e, a, b, c⟩
    obtain ⟨q, q2, qe, qp, q0⟩ := has_prime e h2
    have : (pl x).any (fun q => decide (x % q = 0)) = true := by
      rw [List.any_eq_true]
      exact ⟨q, mem_pl.2 ⟨by omega, q2, qp⟩, by simp; exact Nat.mod_eq_zero_of_dvd (Nat.dvd_trans (Nat.dvd_of_mod_eq_zero q0) (Nat.dvd_of_mod_eq_zero h0))⟩
    rw [this]; rfl
  · have : (pl x).any (fun q => decide (x % q = 0)) = false := by
      rw [List.any_eq_false]
      intro q hq
      obtain ⟨a, b, -⟩ := mem_pl.1 hq
      have := isP_iff.1 hp q b a
      simpa using this
    rw [this]; rfl

theorem pl_succ (x : Nat) (hx : 2 ≤ x) : pl (x + 1) = if isP x then pl x ++ [x] else pl x := by
  unfold pl
  have h2 : Nat.ble 2 x = true := by rw [Nat.ble_eq]; exact hx
  rw [List.range_succ, List.filter_append]
  cases h : isP x <;> simp [h, h2]

theorem pl_prefix {x y : Nat} (h : x ≤ y) : pl x <+: pl y := by
  obtain ⟨d, rfl⟩ : ∃ d, y = x + d := ⟨y - x, by omega⟩
  clear h
  induction d with
  | zero => exact List.prefix_refl _
  | succ d ih =>
    refine List.IsPrefix.trans ih ?_
    unfold pl
    rw [show x + (d + 1) = (x + d) + 1 by omega, List.range_succ, List.filter_append]
    exact List.prefix_append _ _

def P100 : List Nat := [2, 3, 5, 7, 11, 13, 17, 19, 23, 29, 31, 37, 41, 43, 47, 53, 59, 61, 67, 71, 73, 79, 83, 89, 97, 101, 103, 107, 109, 113, 127, 131, 137, 139, 149, 151, 157, 163, 167, 173, 179, 181, 191, 193, 197, 199, 211, 223, 227, 229, 233, 239, 241, 251, 257, 263, 269, 271, 277, 281, 283, 293, 307, 311, 313, 317, 331, 337, 347, 349, 353, 359, 367, 373, 379, 383, 389, 397, 401, 409, 419, 421, 431, 433, 439, 443, 449, 457, 461, 463, 467, 479, 487, 491, 499, 503, 509, 521, 523, 541]

theorem pl_all : pl 542 = P100 := by decide +kernel
theorem P100_len : P100.length = 100 := by decide

theorem pl_take {x : Nat} (hx : x ≤ 542) : pl x = P100.take (pl x).length := by
  have := List.prefix_iff_eq_take.1 (pl_prefix hx)
  rw [pl_all] at this
  exact this

theorem pl_len_le {x : Nat} (hx : x ≤ 542) : (pl x).length ≤ 100 := by
  have := (pl_prefix hx).length_le
  rw [pl_all, P100_len] at this
  exact this

theorem pl_two : pl 2 = [] := by decide

theorem P100_lt : ∀ x ∈ P100, x < 542 := by decide
end Go.Proofs.Ytbkcglfdliicpaa

namespace Go.Proofs.Ytbkcglfdliicpaa
open Go.RowKit
set_option linter.unusedVariables false
set_option maxRecDepth 100000

theorem times_sum (x0 x1 x2 y : Nat) : val4 x0 x1 x2 0 * y = x0 * y + (x1 * y) * 18446744073709551616 + (x2 * y) * 340282366920938463463374607431768211456 := by
  have h : ∀ a b c : Nat, (x0 + x1 * a + x2 * b + 0 * c) * y = x0 * y + (x1 * y) * a + (x2 * y) * b := by intro a b c; grind
  exact h _ _ _

set_option maxHeartbeats 3200000 in
theorem times_ex (x0 x1 x2 y : Nat) (h0 : x0 < 18446744073709551616) (h1 : x1 < 18446744073709551616) (h2 : x2 < 18446744073709551616) (hy : y < 18446744073709551616) : ∃ r0 r1 r2 r3 : Nat,
    Hid (∀ w : World, Calls Try.prog 52 #[.agg #[.int .u64 (x0 : Int), .int .u64 (x1 : Int), .int .u64 (x2 : Int), .int .u64 0], .int .u64 (y : Int)] w fun e w' =>
      e = .returned (.agg #[.int .u64 (r0 : Int), .int .u64 (r1 : Int), .int .u64 (r2 : Int), .int .u64 (r3 : Int)]) ∧ Below w.heap.size w w') ∧
    val4 r0 r1 r2 r3 = val4 x0 x1 x2 0 * y ∧ r0 < 18446744073709551616 ∧ r1 < 18446744073709551616 ∧ r2 < 18446744073709551616 ∧ r3 < 18446744073709551616 := by
  obtain ⟨u0, l0, M0, m0, p0, q0⟩ := mul_ex x0 y h0 hy
  obtain ⟨u1, l1, M1, m1, p1, q1⟩ := mul_ex x1 y h1 hy
  obtain ⟨u2, l2, M2, m2, p2, q2⟩ := mul_ex x2 y h2 hy
  obtain ⟨z1, d1, s1, e1, k1⟩ := add_ex l1 u0 0 (by omega)
  obtain ⟨z2, d2, s2, e2, k2⟩ := add_ex l2 u1 d1 (by omega)
  obtain ⟨z3, d3, s3, e3, k3⟩ := add_ex 0 u2 d2 (by omega)
  refine ⟨l0, z1, z2, z3, Lib.hid fun w => ?_, ?_, p0, k1, k2, k3⟩
  · clear m0 m1 m2 e1 e2 e3 p0 p1 p2 q0 q1 q2 k1 k2 k3 h0 h1 h2
    simp only [Int.ofNat_zero] at s1 s3
    go_enter Try.func52, Try.ntmps52
    go_wp2_with fail
    with_reducible refine (M0.out _).mono ?_
    rintro e w' ⟨rfl, rfl⟩
    go_wp2_with fail
    with_reducible refine (M1.out _).mono ?_
    rintro e w' ⟨rfl, rfl⟩
    go_wp2_with fail
    with_reducible refine (M2.out _).mono ?_
    rintro e w' ⟨rfl, rfl⟩
    go_wp2
    simp [bodyPost, results, Try.results52, go_sem]
    exact ((Below.refl _ _).alloc (Nat.le_refl _) _).alloc (by simp) _
  · have hs := times_sum x0 x1 x2 y
    rw [hs, ← m0, ← m1, ← m2]
    have hX : val4 x0 x1 x2 0 * y ≤ 6277101735386680763835789423207666416102355444464034512895 * 18446744073709551615 := Nat.mul_le_mul (by unfold val4; omega) (by omega)
    rw [hs, ← m0, ← m1, ← m2] at hX
    unfold val4
    omega
end Go.Proofs.Ytbkcglfdliicpaa

namespace Go.Proofs.Ytbkcglfdliicpaa
open Go.RowKit
set_option linter.unusedVariables false
set_option maxRecDepth 100000

/-- the bit that is asked when j are left -/
def hb : Nat → Nat | 0 => 0 | j + 1 => 2 ^ j

theorem hb_half (i : Nat) : 2 ^ i / 2 = hb i := by
  cases i with
  | zero => rfl
  | succ i => simp only [hb]; rw [Nat.pow_succ]; omega

theorem or_add {r i : Nat} (h : 2 ^ (i + 1) ∣ r) : r ||| 2 ^ i = r + 2 ^ i := by
  obtain ⟨q, rfl⟩ := h
  exact (Nat.two_pow_add_eq_or_of_lt (i := i + 1) (b := 2 ^ i) (by rw [Nat.pow_succ]; have := Nat.two_pow_pos i; omega) q).symm

set_option maxHeartbeats 3200000 in
theorem greatest_any (K : Nat) (hK : K = 16 ∨ K = 64) (F : Nat → Bool) (k : FuncId) (caps : Array Value) (w : World)
    (hent : ∀ args W, (callFunc k args).run Try.prog W = .ok (.enter k args) W)
    (hclo : ∀ x, x < 2 ^ K → ∀ W, Below w.heap.size w W → Calls Try.prog k (#[.int .u64 (x : Int)] ++ caps) W fun e W' => e = .returned (.bool (F x)) ∧ Below W.heap.size W W') :
    Calls Try.prog 49 #[.int .i64 (K : Int), .func (.func k) #[] caps] w fun e w' => e = .returned (.int .u64 ((grt F K 0 : Nat) : Int)) ∧ Below w.heap.size w w' := by
  have HC := Lib.hid hclo
  clear hclo
  obtain ⟨B0, hB0⟩ : ∃ B0 : Nat, B0 = hb K := ⟨_, rfl⟩
  have h2K : 2 ^ K ≤ 18446744073709551616 := by rcases hK with rfl | rfl <;> decide
  have hKb : 1 ≤ K ∧ K ≤ 64 := by omega
  have hB2 : B0 = 2 ^ (K - 1) := by rw [hB0]; obtain ⟨K', rfl⟩ : ∃ K', K = K' + 1 := ⟨K - 1, by omega⟩; rfl
  have hsh : IntKind.u64.wrap (2 ^ (K - 1)) = (B0 : Int) := by
    have hlt : 2 ^ (K - 1) < 18446744073709551616 := by
      have : 2 ^ K = 2 ^ (K - 1) + 2 ^ (K - 1) := by rw [show K = (K - 1) + 1 by omega, Nat.pow_succ]; simp; omega
      have := Nat.two_pow_pos (K - 1)
      omega
    have e : (2 : Int) ^ (K - 1) = ((2 ^ (K - 1) : Nat) : Int) := by simp
    rw [e, hB2, IntKind.wrap_u64]
    omega
  have H2K := Lib.hid h2K
  have HB0 := Lib.hid hB0
  clear h2K hB0 hK hB2
  go_enter Try.func49, Try.ntmps49
  go_wp2
  go_loopw [5, 6] (fun f b wr => ∃ j r : Nat, Hid (j ≤ K) ∧ b = .int .u64 ((hb j : Nat) : Int) ∧ f = .int .u64 (r : Int) ∧ Hid (2 ^ j ∣ r) ∧ Hid (r + 2 ^ j ≤ 2 ^ K) ∧ Hid (grt F j r = grt F K 0) ∧ Hid (Below w.heap.size w wr))
    (fun _ b _ => (intOf b).toNat)
  case atStart => exact ⟨K, 0, Lib.hid (Nat.le_refl _), by rw [← HB0.out], rfl, Lib.hid (Nat.dvd_zero _), Lib.hid (by omega), Lib.hid rfl, Lib.hid (Below.refl _ _)⟩
  case round =>
    obtain ⟨j, r, hj, rfl, rfl, hdv, hle, hg, hbel⟩ := hrel
    clear hsh
    rcases j with _ | i
    · have hg' := hg.out
      simp only [grt] at hg'
      subst hg'
      simp only [hb]
      have HB := hbel.out
      clear hbel hle hdv hj HC H2K HB0 hent
      go_wp2
      go_ret
      exact ⟨rfl, HB⟩
    · obtain ⟨B, hB⟩ : ∃ B : Nat, B = 2 ^ i := ⟨_, rfl⟩
      obtain ⟨C, hC⟩ : ∃ C : Nat, C = hb i := ⟨_, rfl⟩
      obtain ⟨q, hq⟩ : ∃ q : Nat, q = r + B := ⟨_, rfl⟩
      have hhalf : B / 2 = C := by rw [hB, hC]; exact hb_half i
      have hBpos : 0 < B := by rw [hB]; exact Nat.two_pow_pos i
      have hpow : 2 ^ (i + 1) = B + B := by rw [hB, Nat.pow_succ]; omega
      have hle' := hle.out
      have h2K' := H2K.out
      rw [hpow] at hle'
      have hor : bits .or .u64 (r : Int) (B : Int) = (q : Int) := by
        rw [u64_or_nat r B (by omega) (by omega), hB, or_add hdv.out, ← hB, ← hq]
      have hdi : 2 ^ i ∣ r := Nat.dvd_trans ⟨2, by rw [Nat.pow_succ]⟩ hdv.out
      have hdq : 2 ^ i ∣ q := by rw [hq, hB]; exact Nat.dvd_add hdi (Nat.dvd_refl _)
      have hgs : grt F (i + 1) r = grt F i (if F q then q else r) := by rw [hq, hB]; rfl
      have Hj : Hid (i ≤ K) := Lib.hid (by have := hj.out; omega)
      have HC2 := Lib.hid (HC.out q (by omega) wr hbel.out)
      have Hle1 : Hid (q + 2 ^ i ≤ 2 ^ K) := Lib.hid (by omega)
      have Hle2 : Hid (r + 2 ^ i ≤ 2 ^ K) := Lib.hid (by omega)
      have Hdi := Lib.hid hdi
      have Hdq := Lib.hid hdq
      have Hq : Hid (grt F i (if F q then q else r) = grt F K 0) := Lib.hid (by rw [← hgs]; exact hg.out)
      have hBi : B < 18446744073709551616 := by omega
      have hb1 : hb (i + 1) = B := by rw [hB]; rfl
      rw [hb1]
      clear hb1 hgs hdq hdi hpow hle' h2K' hle hdv hj hg hq hB HC
      have HBel := hbel
      clear hbel
      by_cases hF : F q = true
      · have HC3 : Hid (Calls Try.prog k (#[.int .u64 (q : Int)] ++ caps) wr fun e W' => e = .returned (.bool true) ∧ Below wr.heap.size wr W') := Lib.hid (by have := HC2.out; rw [hF] at this; exact this)
        rw [if_pos hF] at Hq
        clear hF HC2
        go_wp2_with fail
        go_at_fn k
        refine HC3.out.mono ?_
        rintro e w' ⟨rfl, hb'⟩
        have HB' := Lib.hid (HBel.out.trans (hb'.mono HBel.out.size))
        clear HC3 hb' HBel
        go_wp2_with fail
        go_roundw
        case rel => exact ⟨i, q, Hj, by rw [← hC]; go_num, rfl, Hdq, Hle1, Hq, HB'⟩
        case measure => simp [intOf]; omega
      · have hF' : F q = false := by simpa using hF
        have HC3 : Hid (Calls Try.prog k (#[.int .u64 (q : Int)] ++ caps) wr fun e W' => e = .returned (.bool false) ∧ Below wr.heap.size wr W') := Lib.hid (by have := HC2.out; rw [hF'] at this; exact this)
        rw [if_neg hF] at Hq
        clear hF hF' HC2
        go_wp2_with fail
        go_at_fn k
        refine HC3.out.mono ?_
        rintro e w' ⟨rfl, hb'⟩
        have HB' := Lib.hid (HBel.out.trans (hb'.mono HBel.out.size))
        clear HC3 hb' HBel
        go_wp2_with fail
        go_roundw
        case rel => exact ⟨i, r, Hj, by rw [← hC]; go_num, rfl, Hdi, Hle2, Hq, HB'⟩
        case measure => simp [intOf]; omega
end Go.Proofs.Ytbkcglfdliicpaa

namespace Go.Proofs.Ytbkcglfdliicpaa
open Go.RowKit
set_option linter.unusedVariables false
set_option maxRecDepth 100000

/-- a cell stays behind a new block -/
theorem cell_alloc {w : World} {a : Addr} {v : Value} (h : w.cell? a = some v) (o : Obj) : (w.alloc o).cell? a = some v := by
  have := World.block_lt_of_cell? w _ h
  rw [((Below.refl w.heap.size w).alloc (Nat.le_refl _) o).cell this]; exact h
theorem cell_below {w w' : World} {a : Addr} {v : Value} (h : w.cell? a = some v) (hb : Below w.heap.size w w') : w'.cell? a = some v := by
  rw [hb.cell (World.block_lt_of_cell? w _ h)]; exact h
theorem below_next {w w1 w2 : World} (h : Below w.heap.size w w1) (h2 : Below w1.heap.size w1 w2) : Below w.heap.size w w2 := h.trans (h2.mono h.size)
theorem below_alloc {w w1 : World} (h : Below w.heap.size w w1) (o : Obj) : Below w.heap.size w (w1.alloc o) := h.alloc h.size o

set_option maxHeartbeats 1600000 in
theorem sq1_any (g p x : Nat) (hx : x < 65536) (W : World) (hc : W.cell? ⟨g, 0, none⟩ = some (.int .u64 (p : Int))) :
    Calls Try.prog 62 #[.int .u64 (x : Int), .pointer (some ⟨g, 0, none⟩)] W fun e W' => e = .returned (.bool (decide (pw false x ≤ p))) ∧ Below W.heap.size W W' := by
  have hm : pw false x ≤ 65535 * 65535 := Nat.mul_le_mul (by omega) (by omega)
  have hw : IntKind.u64.wrap ((x : Int) * (x : Int)) = ((pw false x : Nat) : Int) := by
    rw [← Int.natCast_mul, show x * x = pw false x from rfl, IntKind.wrap_u64]; omega
  generalize pw false x = m at *
  clear hx hm
  go_enter Try.func62, Try.ntmps62
  go_wp2
  go_ret
  exact ⟨rfl, Below.refl _ _⟩

set_option maxHeartbeats 1600000 in
theorem cu1_any (g p x : Nat) (hx : x < 65536) (W : World) (hc : W.cell? ⟨g, 0, none⟩ = some (.int .u64 (p : Int))) :
    Calls Try.prog 50 #[.int .u64 (x : Int), .pointer (some ⟨g, 0, none⟩)] W fun e W' => e = .returned (.bool (decide (pw true x ≤ p))) ∧ Below W.heap.size W W' := by
  have hq : x * x ≤ 65535 * 65535 := Nat.mul_le_mul (by omega) (by omega)
  have hm : pw true x ≤ 65535 * 65535 * 65535 := Nat.mul_le_mul hq (by omega)
  have hw : ∃ q : Nat, IntKind.u64.wrap ((x : Int) * (x : Int)) = (q : Int) ∧ IntKind.u64.wrap ((q : Int) * (x : Int)) = ((pw true x : Nat) : Int) := by
    refine ⟨x * x, ?_, ?_⟩
    · rw [← Int.natCast_mul, IntKind.wrap_u64]; omega
    · rw [← Int.natCast_mul, show x * x * x = pw true x from rfl, IntKind.wrap_u64]; omega
  obtain ⟨q, w1, w2⟩ := hw
  generalize pw true x = m at *
  clear hx hm hq
  go_enter Try.func50, Try.ntmps50
  go_wp2
  go_ret
  exact ⟨rfl, Below.refl _ _⟩

theorem atMost2 (a0 a1 a2 a3 r : Nat) (ha0 : a0 < 18446744073709551616) (ha1 : a1 < 18446744073709551616) (ha2 : a2 < 18446744073709551616) (ha3 : a3 < 18446744073709551616) (hr : r < 18446744073709551616) (w : World) :
    Calls Try.prog 53 #[.agg #[.int .u64 (a0 : Int), .int .u64 (a1 : Int), .int .u64 (a2 : Int), .int .u64 (a3 : Int)], .agg #[.int .u64 0, .int .u64 0, .int .u64 (r : Int), .int .u64 0]] w fun e w' =>
      e = .returned (.bool (decide (val4 a0 a1 a2 a3 ≤ val4 0 0 r 0))) ∧ Below w.heap.size w w' :=
  atMost_any a0 a1 a2 a3 0 0 r 0 ha0 ha1 ha2 ha3 (by omega) (by omega) hr (by omega) w
theorem atMost3 (a0 a1 a2 a3 r : Nat) (ha0 : a0 < 18446744073709551616) (ha1 : a1 < 18446744073709551616) (ha2 : a2 < 18446744073709551616) (ha3 : a3 < 18446744073709551616) (hr : r < 18446744073709551616) (w : World) :
    Calls Try.prog 53 #[.agg #[.int .u64 (a0 : Int), .int .u64 (a1 : Int), .int .u64 (a2 : Int), .int .u64 (a3 : Int)], .agg #[.int .u64 0, .int .u64 0, .int .u64 0, .int .u64 (r : Int)]] w fun e w' =>
      e = .returned (.bool (decide (val4 a0 a1 a2 a3 ≤ val4 0 0 0 r))) ∧ Below w.heap.size w w' :=
  atMost_any a0 a1 a2 a3 0 0 0 r ha0 ha1 ha2 ha3 (by omega) (by omega) (by omega) hr w

theorem val4_two (x t : Nat) : val4 x t 0 0 = t * 18446744073709551616 + x := by unfold val4; omega
theorem val4_2 (r : Nat) : val4 0 0 r 0 = r * sc false := by
  have : sc false = 340282366920938463463374607431768211456 := by unfold sc; simp only [Bool.false_eq_true, if_false]
  rw [this]; unfold val4; omega
theorem val4_3 (r : Nat) : val4 0 0 0 r = r * sc true := by
  have : sc true = 6277101735386680763835789423207666416102355444464034512896 := by unfold sc; simp only [if_true]
  rw [this]; unfold val4; omega
theorem ex_sq (a x : Nat) : ex false a x = (2 * a * 18446744073709551616 + x) * x := by unfold ex; simp only [Bool.false_eq_true, if_false]
theorem ex_cu (a x : Nat) : ex true a x = ((3 * a * 18446744073709551616 + x) * x + 3 * a * a * 340282366920938463463374607431768211456) * x := by unfold ex; simp only [if_true]
theorem val4_up (a b c m : Nat) : val4 a b (c + m) 0 = val4 a b c 0 + m * 340282366920938463463374607431768211456 := by unfold val4; omega

set_option maxHeartbeats 1600000 in
theorem sq2_any (ga gr a r x : Nat) (ha : a < 65536) (hr : r < 18446744073709551616) (hx : x < 18446744073709551616) (W : World) (hca : W.cell? ⟨ga, 0, none⟩ = some (.int .u64 (a : Int))) (hcr : W.cell? ⟨gr, 0, none⟩ = some (.int .u64 (r : Int))) :
    Calls Try.prog 63 #[.int .u64 (x : Int), .pointer (some ⟨ga, 0, none⟩), .pointer (some ⟨gr, 0, none⟩)] W fun e W' => e = .returned (.bool (decide (ex false a x ≤ r * sc false))) ∧ Below W.heap.size W W' := by
  obtain ⟨t, ht⟩ : ∃ t : Nat, t = 2 * a := ⟨_, rfl⟩
  have hw : IntKind.u64.wrap (2 * (a : Int)) = (t : Int) := by rw [IntKind.wrap_u64]; omega
  obtain ⟨r0, r1, r2, r3, HT, hv, k0, k1, k2, k3⟩ := times_ex x t 0 x hx (by omega) (by omega) hx
  have HA := Lib.hid (fun w => atMost2 r0 r1 r2 r3 r k0 k1 k2 k3 hr w)
  have hd : (decide (val4 r0 r1 r2 r3 ≤ val4 0 0 r 0)) = decide (ex false a x ≤ r * sc false) := by
    rw [val4_2, hv, val4_two, ht, ex_sq]
  rw [← hd]
  have hltr := World.block_lt_of_cell? W _ hcr
  have HT' : Hid (∀ w : World, Calls Try.prog 52 #[.agg #[.int .u64 (x : Int), .int .u64 (t : Int), .int .u64 0, .int .u64 0], .int .u64 (x : Int)] w fun e w' =>
      e = .returned (.agg #[.int .u64 (r0 : Int), .int .u64 (r1 : Int), .int .u64 (r2 : Int), .int .u64 (r3 : Int)]) ∧ Below w.heap.size w w') := HT
  clear hd hv k0 k1 k2 k3 HT ht ha hr hx
  go_enter Try.func63, Try.ntmps63
  go_wp2_with fail
  with_reducible refine (HT'.out _).mono ?_
  rintro e w1 ⟨rfl, hb1⟩
  have c1 := fun o => cell_alloc (cell_below hcr hb1) o
  have HB1 := Lib.hid hb1
  clear hb1 HT' hcr hca hw hltr
  go_wp2_with fail
  with_reducible refine (HA.out _).mono ?_
  rintro e w2 ⟨rfl, hb2⟩
  have HB2 := Lib.hid (below_next (below_alloc HB1.out _) hb2)
  clear hb2 HB1 c1
  go_wp2_with fail
  go_ret
  exact ⟨rfl, HB2⟩

set_option maxHeartbeats 1600000 in
theorem cu2_any (ga gr a r x : Nat) (ha : a < 65536) (hr : r < 18446744073709551616) (hx : x < 18446744073709551616) (W : World) (hca : W.cell? ⟨ga, 0, none⟩ = some (.int .u64 (a : Int))) (hcr : W.cell? ⟨gr, 0, none⟩ = some (.int .u64 (r : Int))) :
    Calls Try.prog 51 #[.int .u64 (x : Int), .pointer (some ⟨ga, 0, none⟩), .pointer (some ⟨gr, 0, none⟩)] W fun e W' => e = .returned (.bool (decide (ex true a x ≤ r * sc true))) ∧ Below W.heap.size W W' := by
  obtain ⟨t, ht⟩ : ∃ t : Nat, t = 3 * a := ⟨_, rfl⟩
  obtain ⟨m, hm⟩ : ∃ m : Nat, m = t * a := ⟨_, rfl⟩
  have hml : m ≤ 196605 * 65535 := by rw [hm]; exact Nat.mul_le_mul (by omega) (by omega)
  have hw1 : IntKind.u64.wrap (3 * (a : Int)) = (t : Int) := by rw [IntKind.wrap_u64]; omega
  have hw2 : IntKind.u64.wrap ((t : Int) * (a : Int)) = (m : Int) := by rw [← Int.natCast_mul, ← hm, IntKind.wrap_u64]; omega
  obtain ⟨r0, r1, r2, r3, HT, hv, k0, k1, k2, k3⟩ := times_ex x t 0 x hx (by omega) (by omega) hx
  have hbig : val4 x t 0 0 * x ≤ 3626777458843887524118527 * 18446744073709551615 := Nat.mul_le_mul (by unfold val4; omega) (by omega)
  obtain rfl : r3 = 0 := by rw [← hv] at hbig; unfold val4 at hbig; omega
  have hr2 : r2 ≤ 196608 := by rw [← hv] at hbig; unfold val4 at hbig; omega
  obtain ⟨s, hs⟩ : ∃ s : Nat, s = r2 + m := ⟨_, rfl⟩
  have hw3 : IntKind.u64.wrap ((r2 : Int) + (m : Int)) = (s : Int) := by rw [IntKind.wrap_u64]; omega
  have hsl : s < 18446744073709551616 := by omega
  obtain ⟨q0, q1, q2, q3, HU, hu, j0, j1, j2, j3⟩ := times_ex r0 r1 s x k0 k1 hsl hx
  have HA := Lib.hid (fun w => atMost3 q0 q1 q2 q3 r j0 j1 j2 j3 hr w)
  have hd : (decide (val4 q0 q1 q2 q3 ≤ val4 0 0 0 r)) = decide (ex true a x ≤ r * sc true) := by
    rw [val4_3, hu, hs, val4_up, hv, val4_two, hm, ht, ex_cu]
  rw [← hd]
  have HT' : Hid (∀ w : World, Calls Try.prog 52 #[.agg #[.int .u64 (x : Int), .int .u64 (t : Int), .int .u64 0, .int .u64 0], .int .u64 (x : Int)] w fun e w' =>
      e = .returned (.agg #[.int .u64 (r0 : Int), .int .u64 (r1 : Int), .int .u64 (r2 : Int), .int .u64 0]) ∧ Below w.heap.size w w') := HT
  clear hd hv hu k0 k1 k2 k3 j0 j1 j2 j3 HT ht hm hs hml hbig hr2 hsl ha hr hx
  go_enter Try.func51, Try.ntmps51
  go_wp2_with fail
  with_reducible refine (HT'.out _).mono ?_
  rintro e w1 ⟨rfl, hb1⟩
  have c1 := fun o => cell_alloc (cell_below hcr hb1) o
  have c2 := fun o => cell_alloc (cell_below hca hb1) o
  have hb1s : gr < w1.heap.size := World.block_lt_of_cell? w1 _ (cell_below hcr hb1)
  have HB1 := Lib.hid hb1
  clear hb1 HT' hcr hca
  go_wp2_with fail
  with_reducible refine (HU.out _).mono ?_
  rintro e w2 ⟨rfl, hb2⟩
  have hblk := hb2.block w1.heap.size (by simp)
  rw [heap_alloc_new] at hblk
  have hfz : ∀ j, w2.frozen? ⟨w1.heap.size, j, none⟩ = false := fun j => by simp [World.frozen?, hblk]
  have hC : ∀ j, w2.cell? ⟨w1.heap.size, j, none⟩ = _ := fun j => cell_of_row _ _ _ _ _ _ hblk
  have g0 := hC 0
  have g1 := hC 1
  have g2 := hC 2
  have g3 := hC 3
  simp at g0 g1 g2 g3
  have c3 := cell_below (c1 _) hb2
  have hne : ¬ gr = w1.heap.size := fun h => by have := hb1s; omega
  have HB2 := Lib.hid (below_next (below_alloc HB1.out _) hb2)
  have hge := HB1.out.size
  clear hb2 HB1 c1 c2 hw1 hw2 hw3 hblk hC hb1s
  go_wp2_with fail
  go_loud (with_reducible refine (HA.out _).mono ?_)
  rintro e w3 ⟨rfl, hb3⟩
  have HB3 : Hid (Below W.heap.size W w3) := Lib.hid (below_next ((((HB2.out.setCell (p := ⟨w1.heap.size, 0, none⟩) hge _).setCell (p := ⟨w1.heap.size, 1, none⟩) hge _).setCell (p := ⟨w1.heap.size, 2, none⟩) hge _).setCell (p := ⟨w1.heap.size, 3, none⟩) hge _) hb3)
  clear hb3 HB2
  go_wp2_with fail
  go_ret
  exact ⟨rfl, HB3⟩
end Go.Proofs.Ytbkcglfdliicpaa

namespace Go.Proofs.Ytbkcglfdliicpaa
open Go.RowKit
set_option linter.unusedVariables false
set_option maxRecDepth 100000

theorem lt16 {x : Nat} (h : x < 2 ^ 16) : x < 65536 := by have e : (2 : Nat) ^ 16 = 65536 := (by decide); omega
theorem lt64 {x : Nat} (h : x < 2 ^ 64) : x < 18446744073709551616 := by have e : (2 : Nat) ^ 64 = 18446744073709551616 := (by decide); omega

set_option maxHeartbeats 3200000 in
theorem square_any (p : Nat) (hp : p < 18446744073709551616) (w : World) :
    Calls Try.prog 47 #[.int .u64 (p : Int)] w fun e w' => e = .returned (.int .u64 ((sqv false p : Nat) : Int)) ∧ Below w.heap.size w w' := by
  have hmf : ∀ (fn : Fn) (first cap : Array Value) (w : World), (Instr.makeFunc fn first cap).run Try.prog w = .ok (.func fn first cap) w := fun _ _ _ _ => rfl
  by_cases hlt : p < 4294967296
  · obtain ⟨x1, x2, x3⟩ := wh_spec false hlt
    have hend : sqv false p = fr false (wh false p) (p - pw false (wh false p)) := by rw [fr_rt false hlt]; unfold sqv; rw [if_pos hlt]
    obtain ⟨W1, hW1⟩ : ∃ W1, w.alloc (.cells #[.int .u64 (p : Int)] 48) = W1 := ⟨_, rfl⟩
    have cp : W1.cell? ⟨w.heap.size, 0, none⟩ = some (.int .u64 (p : Int)) := by rw [← hW1, cell_of_row _ _ _ _ _ _ (heap_alloc_new _ _)]; rfl
    have hb01 : Below w.heap.size w W1 := by rw [← hW1]; exact (Below.refl _ _).alloc (Nat.le_refl _) _
    have G1 := greatest_any 16 (.inl rfl) (fun x => decide (pw false x ≤ p)) 62 #[.pointer (some ⟨w.heap.size, 0, none⟩)] W1 (enters_of Try.func62 (by kernel_rfl) rfl)
      (fun x hx W hb => sq1_any w.heap.size p x (lt16 hx) W (cell_below cp hb))
    have HG1 : Hid (Calls Try.prog 49 #[.int .i64 16, .func (.func 62) #[] #[.pointer (some ⟨w.heap.size, 0, none⟩)]] W1 fun e w' => e = .returned (.int .u64 ((wh false p : Nat) : Int)) ∧ Below W1.heap.size W1 w') := Lib.hid G1
    clear G1
    obtain ⟨a, ha⟩ : ∃ a, wh false p = a := ⟨_, rfl⟩
    rw [ha] at HG1 x1 x2 x3 hend
    obtain ⟨m, hm⟩ : ∃ m, pw false a = m := ⟨_, rfl⟩
    rw [hm] at x1 hend
    obtain ⟨r, hr⟩ : ∃ r : Nat, p - m = r := ⟨_, rfl⟩
    rw [hr] at hend
    rw [hend]
    have hrl : r < 18446744073709551616 := by omega
    have hww : IntKind.u64.wrap ((a : Int) * (a : Int)) = (m : Int) := by
      rw [← Int.natCast_mul, show a * a = m from hm, IntKind.wrap_u64]; omega
    have hws : IntKind.u64.wrap ((p : Int) - (m : Int)) = (r : Int) := by rw [IntKind.wrap_u64]; omega
    have HG2 : Hid (∀ (W2 W4 : World) (g h : Nat), W4.cell? ⟨g, 0, none⟩ = some (.int .u64 (a : Int)) → W4.cell? ⟨h, 0, none⟩ = some (.int .u64 (r : Int)) →
        Calls Try.prog 49 #[.int .i64 64, .func (.func 63) #[] #[.pointer (some ⟨g, 0, none⟩), .pointer (some ⟨h, 0, none⟩)]] W4 fun e w' => e = .returned (.int .u64 ((fr false a r : Nat) : Int)) ∧ Below W4.heap.size W4 w') := Lib.hid (fun W2 W4 g h cg ch =>
      greatest_any 64 (.inr rfl) (fun x => decide (ex false a x ≤ r * sc false)) 63 #[.pointer (some ⟨g, 0, none⟩), .pointer (some ⟨h, 0, none⟩)] W4 (enters_of Try.func63 (by kernel_rfl) rfl)
        (fun x hx W hb => sq2_any g h a r x x3 hrl (lt64 hx) W (cell_below cg hb) (cell_below ch hb)))
    generalize fr false a r = v at *
    have HB01 := Lib.hid hb01
    have htest : ¬ 4294967295 < (p : Int) := by omega
    clear ha hend hb01 x1 x2 x3 hm hr hrl hlt hp
    go_enter Try.func47, Try.ntmps47
    go_wp2_with fail
    go_loud (with_reducible refine HG1.out.mono ?_)
    rintro e w2 ⟨rfl, hb2⟩
    have c1 := fun o => cell_alloc (cell_below cp hb2) o
    have HB2 := Lib.hid (below_next HB01.out hb2)
    clear hb2 HB01 HG1 cp hW1
    go_wp2_with fail
    have HB4 := Lib.hid (below_alloc (below_alloc HB2.out (.cells #[.int .u64 (a : Int)] 48)) (.cells #[.int .u64 (r : Int)] 48))
    have HG3 := Lib.hid (HG2.out w2 _ w2.heap.size (w2.heap.size + 1) (by rw [cell_of_row _ _ _ _ _ _ (heap_alloc2_old w2 (.cells #[.int .u64 (a : Int)] 48) (.cells #[.int .u64 (r : Int)] 48))]; rfl) (by rw [cell_of_row _ _ _ _ _ _ (heap_alloc2_new w2 (.cells #[.int .u64 (a : Int)] 48) (.cells #[.int .u64 (r : Int)] 48))]; rfl))
    clear HG2 c1
    go_loud (with_reducible refine HG3.out.mono ?_)
    rintro e w3 ⟨rfl, hb3⟩
    have HB5 := Lib.hid (below_next HB4.out hb3)
    clear hb3 HB4 HB2 HG3
    go_wp2_with fail
    go_ret
    exact ⟨rfl, HB5⟩
  · have hz : sqv false p = 0 := by unfold sqv; rw [if_neg hlt]
    rw [hz]
    have htest : 4294967295 < (p : Int) := by omega
    clear hz hlt hp
    go_enter Try.func47, Try.ntmps47
    go_wp2_with fail
    go_ret
    exact ⟨rfl, (Below.refl _ _).alloc (Nat.le_refl _) _⟩

set_option maxHeartbeats 3200000 in
theorem cube_any (p : Nat) (hp : p < 18446744073709551616) (w : World) :
    Calls Try.prog 42 #[.int .u64 (p : Int)] w fun e w' => e = .returned (.int .u64 ((sqv true p : Nat) : Int)) ∧ Below w.heap.size w w' := by
  have hmf : ∀ (fn : Fn) (first cap : Array Value) (w : World), (Instr.makeFunc fn first cap).run Try.prog w = .ok (.func fn first cap) w := fun _ _ _ _ => rfl
  by_cases hlt : p < 4294967296
  · obtain ⟨x1, x2, x3⟩ := wh_spec true hlt
    have hend : sqv true p = fr true (wh true p) (p - pw true (wh true p)) := by rw [fr_rt true hlt]; unfold sqv; rw [if_pos hlt]
    obtain ⟨W1, hW1⟩ : ∃ W1, w.alloc (.cells #[.int .u64 (p : Int)] 48) = W1 := ⟨_, rfl⟩
    have cp : W1.cell? ⟨w.heap.size, 0, none⟩ = some (.int .u64 (p : Int)) := by rw [← hW1, cell_of_row _ _ _ _ _ _ (heap_alloc_new _ _)]; rfl
    have hb01 : Below w.heap.size w W1 := by rw [← hW1]; exact (Below.refl _ _).alloc (Nat.le_refl _) _
    have G1 := greatest_any 16 (.inl rfl) (fun x => decide (pw true x ≤ p)) 50 #[.pointer (some ⟨w.heap.size, 0, none⟩)] W1 (enters_of Try.func50 (by kernel_rfl) rfl)
      (fun x hx W hb => cu1_any w.heap.size p x (lt16 hx) W (cell_below cp hb))
    have HG1 : Hid (Calls Try.prog 49 #[.int .i64 16, .func (.func 50) #[] #[.pointer (some ⟨w.heap.size, 0, none⟩)]] W1 fun e w' => e = .returned (.int .u64 ((wh true p : Nat) : Int)) ∧ Below W1.heap.size W1 w') := Lib.hid G1
    clear G1
    obtain ⟨a, ha⟩ : ∃ a, wh true p = a := ⟨_, rfl⟩
    rw [ha] at HG1 x1 x2 x3 hend
    obtain ⟨m, hm⟩ : ∃ m, pw true a = m := ⟨_, rfl⟩
    rw [hm] at x1 hend
    obtain ⟨r, hr⟩ : ∃ r : Nat, p - m = r := ⟨_, rfl⟩
    rw [hr] at hend
    rw [hend]
    have hrl : r < 18446744073709551616 := by omega
    obtain ⟨q, hq⟩ : ∃ q, a * a = q := ⟨_, rfl⟩
    have hql : q ≤ 65535 * 65535 := by rw [← hq]; exact Nat.mul_le_mul (by omega) (by omega)
    have hww : IntKind.u64.wrap ((a : Int) * (a : Int)) = (q : Int) := by
      rw [← Int.natCast_mul, hq, IntKind.wrap_u64]; omega
    have hw3 : IntKind.u64.wrap ((q : Int) * (a : Int)) = (m : Int) := by
      rw [← Int.natCast_mul, ← hq, show a * a * a = m from hm, IntKind.wrap_u64]; omega
    clear hq hql
    have hws : IntKind.u64.wrap ((p : Int) - (m : Int)) = (r : Int) := by rw [IntKind.wrap_u64]; omega
    have HG2 : Hid (∀ (W2 W4 : World) (g h : Nat), W4.cell? ⟨g, 0, none⟩ = some (.int .u64 (a : Int)) → W4.cell? ⟨h, 0, none⟩ = some (.int .u64 (r : Int)) →
        Calls Try.prog 49 #[.int .i64 64, .func (.func 51) #[] #[.pointer (some ⟨g, 0, none⟩), .pointer (some ⟨h, 0, none⟩)]] W4 fun e w' => e = .returned (.int .u64 ((fr true a r : Nat) : Int)) ∧ Below W4.heap.size W4 w') := Lib.hid (fun W2 W4 g h cg ch =>
      greatest_any 64 (.inr rfl) (fun x => decide (ex true a x ≤ r * sc true)) 51 #[.pointer (some ⟨g, 0, none⟩), .pointer (some ⟨h, 0, none⟩)] W4 (enters_of Try.func51 (by kernel_rfl) rfl)
        (fun x hx W hb => cu2_any g h a r x x3 hrl (lt64 hx) W (cell_below cg hb) (cell_below ch hb)))
    generalize fr true a r = v at *
    have HB01 := Lib.hid hb01
    have htest : ¬ 4294967295 < (p : Int) := by omega
    clear ha hend hb01 x1 x2 x3 hm hr hrl hlt hp
    go_enter Try.func42, Try.ntmps42
    go_wp2_with fail
    go_loud (with_reducible refine HG1.out.mono ?_)
    rintro e w2 ⟨rfl, hb2⟩
    have c1 := fun o => cell_alloc (cell_below cp hb2) o
    have HB2 := Lib.hid (below_next HB01.out hb2)
    clear hb2 HB01 HG1 cp hW1
    go_wp2_with fail
    have HB4 := Lib.hid (below_alloc (below_alloc HB2.out (.cells #[.int .u64 (a : Int)] 48)) (.cells #[.int .u64 (r : Int)] 48))
    have HG3 := Lib.hid (HG2.out w2 _ w2.heap.size (w2.heap.size + 1) (by rw [cell_of_row _ _ _ _ _ _ (heap_alloc2_old w2 (.cells #[.int .u64 (a : Int)] 48) (.cells #[.int .u64 (r : Int)] 48))]; rfl) (by rw [cell_of_row _ _ _ _ _ _ (heap_alloc2_new w2 (.cells #[.int .u64 (a : Int)] 48) (.cells #[.int .u64 (r : Int)] 48))]; rfl))
    clear HG2 c1
    go_loud (with_reducible refine HG3.out.mono ?_)
    rintro e w3 ⟨rfl, hb3⟩
    have HB5 := Lib.hid (below_next HB4.out hb3)
    clear hb3 HB4 HB2 HG3
    go_wp2_with fail
    go_ret
    exact ⟨rfl, HB5⟩
  · have hz : sqv true p = 0 := by unfold sqv; rw [if_neg hlt]
    rw [hz]
    have htest : 4294967295 < (p : Int) := by omega
    clear hz hlt hp
    go_enter Try.func42, Try.ntmps42
    go_wp2_with fail
    go_ret
    exact ⟨rfl, (Below.refl _ _).alloc (Nat.le_refl _) _⟩
end Go.Proofs.Ytbkcglfdliicpaa

namespace Go.Proofs.Ytbkcglfdliicpaa
open Go.RowKit
set_option linter.unusedVariables false
set_option maxRecDepth 100000

set_option maxHeartbeats 1600000 in
theorem divisible_any (x : Nat) (A : Option Addr) (l : List Nat) (c : Nat) (w : World) (h : Us w A l) (hl : l.length ≤ 2147483648) (hq : ∀ q ∈ l, 0 < q) :
    Calls Try.prog 48 #[.int .u64 (x : Int), .slice A l.length c] w fun e w' => e = .returned (.bool (l.any fun q => decide (x % q = 0))) ∧ w' = w := by
  obtain ⟨v, hv⟩ : ∃ v, (l.any fun q => decide (x % q = 0)) = v := ⟨_, rfl⟩
  rw [hv]
  have HV := Lib.hid hv
  clear hv
  go_enter Try.func48, Try.ntmps48
  go_wp2
  go_loop [9] (fun i => ∃ k : Nat, k ≤ l.length ∧ i = .int .i64 k ∧ Hid ((l.take k).any (fun q => decide (x % q = 0)) = false)) (fun i => l.length - (intOf i).toNat)
  case atStart => exact ⟨0, by omega, rfl, Lib.hid rfl⟩
  case round =>
    obtain ⟨k, hk, rfl, hn⟩ := hrel
    by_cases hlt : k < l.length
    · obtain ⟨bb, oo, rfl, hc⟩ := h.at_ hlt
      obtain ⟨y, hy⟩ : ∃ y, l.getD k 0 = y := ⟨_, rfl⟩
      rw [hy] at hc
      have hyk : l[k] = y := by rw [← hy]; simp [List.getD, hlt]
      have hy0 : 0 < y := by rw [← hyk]; exact hq _ (List.getElem_mem hlt)
      have hs : (l.take (k + 1)).any (fun q => decide (x % q = 0)) = decide (x % y = 0) := by
        rw [List.take_succ_eq_append_getElem hlt, List.any_append, hn.out, hyk]; simp
      by_cases hd : x % y = 0
      · have hend : Hid (v = true) := Lib.hid (by
          rw [← HV.out, List.any_eq_true]; exact ⟨l[k], List.getElem_mem hlt, by rw [hyk]; simpa using hd⟩)
        have hd' : (x : Int) % (y : Int) = 0 := by omega
        clear hs hn hyk hy hq h hd
        go_wp2
        go_ret
        exact ⟨by rw [hend.out]; rfl, rfl⟩
      · have hs' : Hid ((l.take (k + 1)).any (fun q => decide (x % q = 0)) = false) := Lib.hid (by rw [hs]; simpa using hd)
        have hd' : ((x : Int) % (y : Int) == 0) = false := by simp; omega
        clear hs hn hyk hy hd
        go_wp2
        go_round
        case rel => exact ⟨k + 1, by omega, by go_num, hs'⟩
        case measure => simp [intOf]; omega
    · obtain rfl : k = l.length := by omega
      have hend : Hid (v = false) := Lib.hid (by rw [← HV.out, ← hn.out, List.take_length])
      clear hn
      go_wp2
      go_ret
      exact ⟨by rw [hend.out]; rfl, rfl⟩

theorem info64 : (Try.prog.info? 48).map (fun i => (i.zero, i.size, i.bytes)) = some (some (.int .u64 0), 1, 8) := by kernel_rfl

theorem make_cap64 (k : Nat) (hk : k ≤ 2147483648) (u : World) : (Instr.makeSlice 67 (.int .i64 0) (.int .i64 (k : Int))).run Try.prog u =
      .ok (.slice (some ⟨u.heap.size, 0, none⟩) 0 k) (u.alloc (.cells (madeCells #[.int .u64 0] k) 48)) := by
  obtain ⟨i0, hi, hz0, hz1, hz2⟩ := info_parts info64
  have h := run_make (P := Try.prog) u 67 48 i0 (.int .u64 0) Try.underlying67 hi hz0 .i64 .i64 0 (k : Int) (by omega) (by omega) (by rw [hz2]; omega) (by omega)
  simpa [hz1, Value.cells] using h
theorem cap_made64 (w : World) (k : Nat) (hk : k ≤ 2147483648) : Uo 48 (w.alloc (.cells (madeCells #[.int .u64 0] k) 48)) w.heap.size (.slice (some ⟨w.heap.size, 0, none⟩) 0 k) [] :=
  ⟨by simp, .inr ⟨w.heap.size, k, _, rfl, Nat.le_refl _, heap_alloc_new _ _, Nat.zero_le _, by unfold maxLen; omega, by simp [size_madeCells], by simp⟩⟩
theorem make_full64 (k : Nat) (hk : k ≤ 2147483648) (u : World) : (Instr.makeSlice 67 (.int .i64 (k : Int)) (.int .i64 (k : Int))).run Try.prog u =
      .ok (.slice (some ⟨u.heap.size, 0, none⟩) k k) (u.alloc (.cells (madeCells #[.int .u64 0] k) 48)) := by
  obtain ⟨i0, hi, hz0, hz1, hz2⟩ := info_parts info64
  have h := run_make (P := Try.prog) u 67 48 i0 (.int .u64 0) Try.underlying67 hi hz0 .i64 .i64 (k : Int) (k : Int) (by omega) (by omega) (by rw [hz2]; omega) (by omega)
  simpa [hz1, Value.cells] using h
theorem own_made64 (w : World) (k : Nat) (hk : k ≤ 2147483648) : Uo 48 (w.alloc (.cells (madeCells #[.int .u64 0] k) 48)) w.heap.size (.slice (some ⟨w.heap.size, 0, none⟩) k k) (List.replicate k 0) := by
  have h := World.ownsRow_lit (base := w.heap.size) (e := 48) (size := 1) w (madeCells #[.int .u64 0] k) k (Nat.le_refl _) (by unfold maxLen; omega) (by simp [size_madeCells])
  unfold Uo
  rw [toList_madeCells_one] at h
  simpa [List.map_replicate, uval] using h
theorem us_lit1 (w : World) (E : TypeId) (x : Nat) : Us (w.alloc (.cells #[.int .u64 (x : Int)] E)) (some ⟨w.heap.size, 0, none⟩) [x] := fun _ =>
  ⟨_, _, rfl, fun j hj => by
    have : j = 0 := by simpa using hj
    subst this
    have := heap_alloc_new w (.cells #[.int .u64 (x : Int)] E)
    rw [cell_of_row _ _ _ _ _ _ this]
    simp⟩

def clampN (n : Int) : Nat := (max 0 (min n 100)).toNat

theorem Uo.fresh {E : TypeId} {w : World} {base : Nat} {v : Value} {l : List Nat} (h : Uo E w base v l) : ∀ k, v.ownBlock = some k → base ≤ k := by
  intro k hk
  rcases h.2 with ⟨rfl, _⟩ | ⟨g, cap, cur, rfl, hb, _⟩
  · simp [Value.ownBlock] at hk
  · simp [Value.ownBlock] at hk
    omega

def NIs (n : Nat) (w : World) (s : Value) (w' : World) : Prop := s = .int .i64 (n : Int) ∧ w' = w

set_option maxHeartbeats 3200000 in
theorem primes_any (n : Int) (h1 : -9223372036854775808 ≤ n) (h2 : n ≤ 9223372036854775807) (w : World) :
    Calls Try.prog 41 #[.int .i64 n] w fun e w' => ∃ v, e = .returned v ∧ Uo 48 w' w.heap.size v (P100.take (clampN n)) ∧ Below w.heap.size w w' := by
  obtain ⟨K, hK⟩ : ∃ K, clampN n = K := ⟨_, rfl⟩
  have hK2 : K ≤ 100 := by rw [← hK]; unfold clampN; omega
  rw [hK]
  have hKn : Hid (max 0 (min n 100) = (K : Int)) := Lib.hid (by rw [← hK]; unfold clampN; omega)
  clear hK
  have mk := fun u => make_cap64 K (by omega) u
  go_enter Try.func41, Try.ntmps41
  go_upto_region 1 with fail
  go_cut [0] (NIs K w)
  case first =>
    go_wp2_with fail
    all_goals go_meet
    all_goals
      refine ⟨?_, rfl⟩
      have h0 := hKn.out
      congr 1
      omega
  case rest =>
    obtain ⟨rfl, rfl⟩ := hcut
    have HU0 := Lib.hid (cap_made64 wc K (by omega))
    have HB0 : Hid (Below wc.heap.size wc (wc.alloc (.cells (madeCells #[.int .u64 0] K) 48))) := Lib.hid ((Below.refl _ _).alloc (Nat.le_refl _) _)
    go_wp2_with fail
    go_loopw [3, 4] (fun sl x wr => ∃ (y : Nat) (A : Option Addr) (c : Nat) (l : List Nat), Hid (2 ≤ y) ∧ y ≤ 542 ∧ x = .int .u64 (y : Int) ∧ Hid (l = pl y) ∧ l.length ≤ K ∧ sl = .slice A l.length c ∧ Hid (Uo 48 wr wc.heap.size (.slice A l.length c) l) ∧ Hid (Below wc.heap.size wc wr)) (fun _ x _ => 543 - (intOf x).toNat)
    case atStart => exact ⟨2, _, _, [], Lib.hid (by omega), by omega, rfl, Lib.hid (by rw [pl_two]), by simp, rfl, HU0, HB0⟩
    case round =>
      obtain ⟨y, A, c, l, hy2, hy, rfl, hl, hlK, rfl, Hown, Hbel⟩ := hrel
      clear HU0 HB0 mk hKn
      by_cases hlt : l.length < K
      · have hy1 : y < 542 := by
          rcases Nat.lt_or_ge y 542 with g | g
          · exact g
          · have e : y = 542 := by omega
            have := hl.out
            rw [e, pl_all] at this
            rw [this, P100_len] at hlt
            omega
        have HD : Hid (Calls Try.prog 48 #[.int .u64 (y : Int), .slice A l.length c] wr fun e w' => e = .returned (.bool (!isP y)) ∧ wr = w') := Lib.hid (by
          have := divisible_any y A l c wr Hown.out.bs (by omega) (fun q hq => by rw [hl.out] at hq; have := (mem_pl.1 hq).2.1; omega)
          rw [isP_any hy2.out, Bool.not_not]
          rw [hl.out] at this ⊢
          exact this.mono fun e w' h => ⟨h.1, h.2.symm⟩)
        by_cases hp : isP y = true
        · rw [hp] at HD
          have hl2 : Hid (l ++ [y] = pl (y + 1)) := Lib.hid (by rw [pl_succ y hy2.out, if_pos hp, hl.out])
          have HU1 : Hid (Us (wr.alloc (.cells #[.int .u64 (y : Int)] 48)) (some ⟨wr.heap.size, 0, none⟩) [y]) := Lib.hid (us_lit1 wr _ y)
          have HO1 : Hid (Uo 48 (wr.alloc (.cells #[.int .u64 (y : Int)] 48)) wc.heap.size (.slice A l.length c) l) := Lib.hid (Hown.out.below ((Below.refl _ _).alloc (Nat.le_refl _) _))
          have hz : wc.heap.size ≤ wr.heap.size := Hbel.out.size
          have HY2 : Hid (2 ≤ y + 1) := Lib.hid (by have := hy2.out; omega)
          clear hp hl hy2
          go_wp2_with (first
            | (go_at_call 48; refine HD.out.mono ?_; rintro e w' ⟨rfl, rfl⟩)
            | (at_builtin; refine wpList_append_us rfl (.tmp 20) (.tmp 22) 67 rfl wc.heap.size 48 Try.underlying67 info64 (.slice A l.length c) l rfl HO1.out (some ⟨wr.heap.size, 0, none⟩) [y] 1 1 rfl rfl HU1.out (by simp; omega) (by simp; omega) ?_))
          intro v5 w5 ho5 hgr5
          obtain ⟨A5, c5, rfl, -, -⟩ := ho5.form
          have B5 : Hid (Below wc.heap.size wc w5) := Lib.hid ((Hbel.out.alloc hz _).grown hgr5 (by simp; omega) Hown.out.fresh)
          have hl5 : (l ++ [y]).length = l.length + 1 := by simp
          have HO5 := Lib.hid ho5
          clear ho5 hgr5 HD HU1 HO1 Hown Hbel
          go_wp2_with fail
          go_roundw
          case rel => exact ⟨y + 1, A5, c5, l ++ [y], HY2, by omega, by go_num, hl2, by omega, by first | rfl | rw [hl5], HO5, B5⟩
          case measure => simp [intOf]; omega
        · have hp' : isP y = false := by simpa using hp
          rw [hp'] at HD
          have hl2 : Hid (l = pl (y + 1)) := Lib.hid (by rw [pl_succ y hy2.out, if_neg hp, hl.out])
          have HY2 : Hid (2 ≤ y + 1) := Lib.hid (by have := hy2.out; omega)
          clear hp hp' hl hy2
          go_wp2_with (go_at_call 48; refine HD.out.mono ?_; rintro e w' ⟨rfl, rfl⟩)
          clear HD
          go_roundw
          case rel => exact ⟨y + 1, A, c, l, HY2, by omega, by go_num, hl2, hlK, rfl, Hown, Hbel⟩
          case measure => simp [intOf]; omega
      · obtain rfl : K = l.length := by omega
        have HF : Hid (l = P100.take l.length) := Lib.hid (by have := pl_take hy; rw [← hl.out] at this; exact this)
        clear hl hy2
        go_wp2
        go_ret
        exact ⟨_, rfl, by rw [← HF.out]; exact Hown.out, Hbel.out⟩
end Go.Proofs.Ytbkcglfdliicpaa

