/- Both cursors in one memory: a call on one leaves the other. -/
import Derived.Test.YtcpkmhhlcmnfdaaRefCu5
import Derived.Test.YtcpkmhhlcmnfdaaDevCu4
namespace Go.Proofs.Ytcpkmhhlcmnfdaa
open Go.RowKit
set_option linter.unusedVariables false
set_option maxRecDepth 100000

/-- where all lies -/
structure CuA where
  fa : FA
  g : Nat
  q : CuAd
  h : Nat
  hB : Nat
  hW : Nat
  kB : Nat
  kW : Nat
  N : Nat
  s0 : Nat
def CuA.F (p : CuA) (j : Nat) : Prop := FlF p.h p.hB p.hW j ∨ OwnF p.fa p.g j
def CuA.D (p : CuA) (j : Nat) : Prop := OwnF p.fa p.g j
def CuA.R (p : CuA) (j : Nat) : Prop := ROwn p.q p.h p.hB p.hW j

structure CPm (p : CuA) (a c : Nat) (W : World) (u : Cu Dl) (v : Cu Fl) : Prop where
  dev : CuP a c p.fa (p.N - 1) p.g W u p.D
  ref : RCuP W p.q p.h p.hB p.hW p.kB p.kW p.N a c p.s0 p.F v
  d1 : ∀ j, p.D j → ¬ p.R j
  d2 : ∀ j, p.D j → j < p.N
  d3 : ∀ j, p.R j → j < p.N
  size : p.N ≤ W.heap.size
  hcr : c + 1 ≤ p.q.cr

theorem CuP.apart {a c : Nat} {fa : FA} {G g : Nat} {W W' : World} {u : Cu Dl} {Q F : Nat → Prop} (h : CuP a c fa G g W u Q) (ho : Only F W W') (hF : ∀ j, F j → ¬ OwnF fa g j ∧ j ≤ G) : CuP a c fa G g W' u Q := by
  obtain ⟨wd, hm, hw⟩ := h.mem
  exact ⟨h.q, ⟨wd, hm.only ho (fun e => (hF _ e).1 (.inr rfl)), hw⟩, h.fl.apart ho (fun j hj => ⟨fun e => (hF j hj).1 (.inl e), (hF j hj).2⟩), h.gG, h.out, h.num, h.len, h.sz⟩
theorem RCuP.apart {W W' : World} {q : CuAd} {gf hB hW kB kW N a c s0 : Nat} {F F' : Nat → Prop} {v : Cu Fl} (h : RCuP W q gf hB hW kB kW N a c s0 F v) (ho : Only F' W W') (hF : ∀ j, F' j → F j ∧ j < N ∧ ¬ FlF gf hB hW j) : RCuP W' q gf hB hW kB kW N a c s0 F v := by
  obtain ⟨rd, en, hu, hr, he⟩ := h.cu
  exact ⟨h.fl.apart ho (fun j hj => ⟨(hF j hj).2.1, fun e => (hF j hj).2.2 (.inl e), fun e => (hF j hj).2.2 (.inr (.inl e)), fun e => (hF j hj).2.2 (.inr (.inr e))⟩), rd, en, hu.only ho (fun j hj => (hF j hj).1), hr, he⟩

section
variable {p : CuA} {a c : Nat} {W W' : World} {u u' : Cu Dl} {v v' : Cu Fl}
theorem CPm.devTo (h : CPm p a c W u v) (hd : CuP a c p.fa (p.N - 1) p.g W' u' p.D) (ho : Only p.D W W') : CPm p a c W' u' v :=
  ⟨hd, h.ref.apart ho (fun j hj => ⟨.inr hj, h.d2 j hj, fun e => h.d1 j hj (.inl e)⟩), h.d1, h.d2, h.d3, Nat.le_trans h.size ho.size, h.hcr⟩
theorem CPm.refTo (h : CPm p a c W u v) (hr : RCuP W' p.q p.h p.hB p.hW p.kB p.kW p.N a c p.s0 p.F v') (ho : Only p.R W W') : CPm p a c W' u v' :=
  ⟨h.dev.apart ho (fun j hj => ⟨fun e => h.d1 j e hj, by have := h.d3 j hj; omega⟩), hr, h.d1, h.d2, h.d3, Nat.le_trans h.size ho.size, h.hcr⟩
theorem CPm.below (h : CPm p a c W u v) (hb : Below W.heap.size W W') : CPm p a c W' u v :=
  ⟨h.dev.below hb, h.ref.below hb, h.d1, h.d2, h.d3, Nat.le_trans h.size hb.size, h.hcr⟩
theorem CPm.fs (h : CPm p a c W u v) : ∀ k, p.F k → k < W.heap.size := fun k hk => by
  have := h.size
  rcases hk with hk | hk
  · have := h.d3 k (.inl hk); omega
  · have := h.d2 k hk; omega
def CPost2 (p : CuA) (a c : Nat) (F : Nat → Prop) (W : World) (r : Value) (u : Cu Dl) (v : Cu Fl) (e : Ending) (w' : World) : Prop := e = .returned r ∧ CPm p a c w' u v ∧ Only F W w'

theorem cp_dwrite (h : CPm p a c W u v) (A : Option Addr) (l : List UInt8) (k : Nat) (hA : Bs W A l) (hoff : 0 < l.length → ∀ j, At A j → ¬ p.D j) (hk : l.length ≤ k) (hl2 : l.length ≤ 65536) (rm : Room u.x.d (10 * (l.length : Int))) :
    Calls Try.prog 19 #[.pointer (some ⟨p.g, 0, none⟩), .slice A l.length k] W (CPost2 p a c p.D W (.int .i64 (cwrite (devOps a c) u l).1) (cwrite (devOps a c) u l).2 v) :=
  (cwrite_any h.dev A l k hA hoff hk hl2 rm).mono fun e w' ⟨h1, h2, h3⟩ => ⟨h1, h.devTo h2 h3, h3⟩
theorem cp_dflush (h : CPm p a c W u v) (rm : Room u.x.d 10) :
    Calls Try.prog 21 #[.pointer (some ⟨p.g, 0, none⟩)] W (CPost2 p a c p.D W (.int .i64 (cflush (devOps a c) u).1) (cflush (devOps a c) u).2 v) :=
  (cflush_any h.dev rm).mono fun e w' ⟨h1, h2, h3⟩ => ⟨h1, h.devTo h2 h3, h3⟩
theorem cp_rwrite {U : Cu Dl} (h : CPm p a c W u v) (hS : SU U v) (num : CuN c U) (lo : U.dead = 0 → p.s0 ≤ (U.at_ - U.held.length) / 1024) (ha : a ≤ 65536) (hc : c ≤ 65535) (A : Option Addr) (l : List UInt8) (k : Nat) (hA : Bs W A l) (hoff : 0 < l.length → ∀ j, At A j → ¬ p.R j) (hk : l.length ≤ k) (hl2 : l.length ≤ 65536) (rm : Room U.x.d (10 * (l.length : Int))) :
    Calls Try.prog 20 #[.pointer (some ⟨p.q.g, 0, none⟩), .slice A l.length k] W (CPost2 p a c p.R W (.int .i64 (cwrite (refOps a c) v l).1) u (cwrite (refOps a c) v l).2) :=
  (rwrite_any h.ref (fun k hk => .inl hk) h.fs hS num lo ha hc h.hcr A l k hA hoff hk hl2 rm).mono fun e w' ⟨h1, h2, h3⟩ => ⟨h1, h.refTo h2 h3, h3⟩
theorem cp_rflush {U : Cu Dl} (h : CPm p a c W u v) (hS : SU U v) (num : CuN c U) (lo : U.dead = 0 → p.s0 ≤ (U.at_ - U.held.length) / 1024) (ha : a ≤ 65536) (hc : c ≤ 65535) (rm : Room U.x.d 10) :
    Calls Try.prog 22 #[.pointer (some ⟨p.q.g, 0, none⟩)] W (CPost2 p a c p.R W (.int .i64 (cflush (refOps a c) v).1) u (cflush (refOps a c) v).2) :=
  (rflush_any h.ref (fun k hk => .inl hk) h.fs hS num lo ha hc h.hcr rm).mono fun e w' ⟨h1, h2, h3⟩ => ⟨h1, h.refTo h2 h3, h3⟩
/-- a call on the program's flash -/
theorem cp_dev (h : CPm p a c W u v) {d : Dl} {N' : Nat} (hd : DevFl W' p.fa.g p.fa.gB p.fa.gW p.fa.cB p.fa.cW N' d) (hp : 0 < d.pick.length → p.N ≤ N') (hN : 1 ≤ p.N) (ho : Only (fun k => k = p.fa.g) W W') (hl : d.b.length = u.x.d.b.length) : CPm p a c W' (turned u d) v ∧ Only p.D W W' := by
  have hoF : Only p.fa.F W W' := ho.mono fun k _ e => .inl e
  have hoD : Only p.D W W' := hoF.mono fun k _ e => .inl e
  exact ⟨h.devTo (cuP_turn h.dev ⟨N', hd, fun q => by have := hp q; omega⟩ hoF hl) hoD, hoD⟩
def rturned (v : Cu Fl) (f : Fl) : Cu Fl := ⟨⟨f, v.x.hi, v.x.ent⟩, v.at_, v.held, v.dead⟩
theorem cp_ref (h : CPm p a c W u v) {f : Fl} (hf : RefFl W' p.h p.hB p.hW p.kB p.kW p.N f) (ho : Only (fun k => k = p.h) W W') : CPm p a c W' u (rturned v f) ∧ Only p.R W W' := by
  obtain ⟨rd, en, hu, hr, he⟩ := h.ref.cu
  have hoR : Only p.R W W' := ho.mono fun k _ e => .inl (.inl e)
  exact ⟨h.refTo ⟨hf, rd, en, hu.only ho (fun k e => .inl (.inl e)), hr, he⟩ hoR, hoR⟩
theorem cp_darm (h : CPm p a c W u v) (hN : 1 ≤ p.N) (n : Int) (A : Option Addr) (m : List UInt8) (k : Nat) (hm : Bs W A m) (hk : m.length ≤ k) (hlen : m.length ≤ 65536) :
    Calls Try.prog 23 #[.pointer (some ⟨p.fa.g, 0, none⟩), .int .i64 n, .slice A m.length k] W (CPost2 p a c p.D W (.tuple #[]) (turned u (darmOf u.x.d n m)) v) := by
  obtain ⟨N', hd, -⟩ := h.dev.fl
  refine (darm_any (N := p.N) hd n A m k hm hk (by omega) h.size).mono fun e w' ⟨h1, h2, h3⟩ => ?_
  obtain ⟨q1, q2⟩ := cp_dev h h2 (fun _ => Nat.le_refl _) hN h3 (by unfold darmOf; split <;> rfl)
  exact ⟨h1, q1, q2⟩
theorem cp_rarm (h : CPm p a c W u v) (n : Int) (A : Option Addr) (m : List UInt8) (k : Nat) (hm : Bs W A m) (hlen : m.length ≤ 65536) :
    Calls Try.prog 24 #[.pointer (some ⟨p.h, 0, none⟩), .int .i64 n, .slice A m.length k] W (CPost2 p a c p.R W (.tuple #[]) u (rturned v (rarmOf v.x.d n m))) := by
  refine (rarm_any h.ref.fl n A m k hm (by omega) h.size).mono fun e w' ⟨h1, h2, h3⟩ => ?_
  obtain ⟨q1, q2⟩ := cp_ref h h2 h3
  exact ⟨h1, q1, q2⟩
theorem cp_dboot (h : CPm p a c W u v) (hN : 1 ≤ p.N) :
    Calls Try.prog 25 #[.pointer (some ⟨p.fa.g, 0, none⟩)] W (CPost2 p a c p.D W (.tuple #[]) (turned u ⟨u.x.d.b, u.x.d.worn, u.x.d.steps, false, false, 0, []⟩) v) := by
  obtain ⟨N', hd, -⟩ := h.dev.fl
  refine (dboot_any hd).mono fun e w' ⟨h1, h2, h3⟩ => ?_
  obtain ⟨q1, q2⟩ := cp_dev h h2 (fun q => absurd q (by simp)) hN h3 rfl
  exact ⟨h1, q1, q2⟩
theorem cp_rboot (h : CPm p a c W u v) :
    Calls Try.prog 26 #[.pointer (some ⟨p.h, 0, none⟩)] W (CPost2 p a c p.R W (.tuple #[]) u (rturned v ⟨v.x.d.b, v.x.d.worn, v.x.d.steps, -1, [], false⟩)) := by
  refine (rboot_any h.ref.fl).mono fun e w' ⟨h1, h2, h3⟩ => ?_
  obtain ⟨q1, q2⟩ := cp_ref h h2 h3
  exact ⟨h1, q1, q2⟩
end

/-- where the held bytes begin does not go back -/
theorem lo_push {a c s0 : Nat} {u : Cu Dl} (h : u.dead = 0 → s0 ≤ (u.at_ - u.held.length) / 1024) (b : UInt8) : (cpush (devOps a c) u b).dead = 0 → s0 ≤ ((cpush (devOps a c) u b).at_ - (cpush (devOps a c) u b).held.length) / 1024 := by
  unfold cpush
  by_cases hd : u.dead = 0
  · rw [if_neg (by simpa using hd)]
    have h0 := h hd
    by_cases h8 : (u.held ++ [b]).length = 8
    · rw [if_pos h8]
      unfold cput
      dsimp only
      intro hr
      rw [if_pos hr]
      simp only [List.length_nil]
      omega
    · rw [if_neg h8]
      dsimp only
      intro _
      simp only [List.length_append, List.length_singleton]
      omega
  · rw [if_pos hd]; intro q; exact absurd q hd
theorem lo_pushes {a c s0 : Nat} : ∀ (l : List UInt8) {u : Cu Dl}, (u.dead = 0 → s0 ≤ (u.at_ - u.held.length) / 1024) → (cpushes (devOps a c) u l).dead = 0 → s0 ≤ ((cpushes (devOps a c) u l).at_ - (cpushes (devOps a c) u l).held.length) / 1024
  | [], u, h => h
  | b :: l, u, h => by rw [cpushes_cons]; exact lo_pushes l (lo_push h b)
theorem lo_write {a c s0 : Nat} {u : Cu Dl} (h : u.dead = 0 → s0 ≤ (u.at_ - u.held.length) / 1024) (l : List UInt8) : (cwrite (devOps a c) u l).2.dead = 0 → s0 ≤ ((cwrite (devOps a c) u l).2.at_ - (cwrite (devOps a c) u l).2.held.length) / 1024 := by
  unfold cwrite
  split
  · exact h
  · split
    · exact h
    · exact lo_pushes l h
theorem lo_flush {a c s0 : Nat} {u : Cu Dl} (h : u.dead = 0 → s0 ≤ (u.at_ - u.held.length) / 1024) : (cflush (devOps a c) u).2.dead = 0 → s0 ≤ ((cflush (devOps a c) u).2.at_ - (cflush (devOps a c) u).2.held.length) / 1024 := by
  unfold cflush
  by_cases q : u.dead = 0 ∧ 0 < u.held.length
  · rw [if_pos q]; intro _; exact h q.1
  · rw [if_neg q]; exact h

/-- one round's state -/
structure CSt (p : CuA) (a c : Nat) (w0 : World) (k : Int) (W : World) (u : Cu Dl) (v : Cu Fl) : Prop where
  cp : CPm p a c W u v
  su : SU u v
  lo : u.dead = 0 → p.s0 ≤ (u.at_ - u.held.length) / 1024
  rm : Room u.x.d k
  bel : Below w0.heap.size w0 W
  hi : ∀ j, p.D j ∨ p.R j → w0.heap.size ≤ j
  bl : u.x.d.b.length = (a + c) * 1024
theorem CSt.below {p : CuA} {a c : Nat} {w0 W W' : World} {k : Int} {u : Cu Dl} {v : Cu Fl} (h : CSt p a c w0 k W u v) (hb : Below W.heap.size W W') : CSt p a c w0 k W' u v :=
  ⟨h.cp.below hb, h.su, h.lo, h.rm, below_on h.bel hb, h.hi, h.bl⟩
theorem cst_write {p : CuA} {a c : Nat} {w0 W W2 : World} {k : Int} {u : Cu Dl} {v : Cu Fl} (hk : 0 ≤ k) (h : CSt p a c w0 (k + 20000) W u v) {l : List UInt8} (hl : l.length ≤ 1100) (hc : CPm p a c W2 (cwrite (devOps a c) u l).2 (cwrite (refOps a c) v l).2) (ho : Only (fun j => p.D j ∨ p.R j) W W2) : CSt p a c w0 k W2 (cwrite (devOps a c) u l).2 (cwrite (refOps a c) v l).2 := by
  obtain ⟨q1, q2⟩ := write_su (a := a) (c := c) h.su l (h.rm.less (by have := h.rm.steps; have := h.rm.ok.s0; omega))
  have hcn := write_cn (a := a) (c := c) (u := u) l (h.rm.less (by have := h.rm.steps; have := h.rm.ok.s0; omega))
  exact ⟨hc, q2, lo_write h.lo l, (Room.after (k := 10 * (l.length : Int)) (n := k) (h.rm.less (by omega)) hcn), h.bel.trans (ho.below h.bel.size (fun j hj q => by have := h.hi j q; omega)), h.hi, by rw [hcn.blen h.rm.ok]; exact h.bl⟩
theorem cst_flush {p : CuA} {a c : Nat} {w0 W W2 : World} {k : Int} {u : Cu Dl} {v : Cu Fl} (hk : 0 ≤ k) (h : CSt p a c w0 (k + 20000) W u v) (hc : CPm p a c W2 (cflush (devOps a c) u).2 (cflush (refOps a c) v).2) (ho : Only (fun j => p.D j ∨ p.R j) W W2) : CSt p a c w0 k W2 (cflush (devOps a c) u).2 (cflush (refOps a c) v).2 := by
  have hhl := h.cp.dev.num.hl
  obtain ⟨q1, q2⟩ := flush_su (a := a) (c := c) h.su (h.rm.less (by omega)) hhl
  have hcn := flush_cn (a := a) (c := c) (u := u) (h.rm.less (by omega)) hhl
  exact ⟨hc, q2, lo_flush h.lo, (Room.after (k := 10) (n := k) (h.rm.less (by omega)) hcn), h.bel.trans (ho.below h.bel.size (fun j hj q => by have := h.hi j q; omega)), h.hi, by rw [hcn.blen h.rm.ok]; exact h.bl⟩
theorem cst_arm {p : CuA} {a c : Nat} {w0 W W2 : World} {k : Int} {u : Cu Dl} {v : Cu Fl} (h : CSt p a c w0 (k + 20000) W u v) {n : Int} {m : List UInt8} (hn : n ≤ 9223372036854775807) (hm : m.length ≤ 65536) (hc : CPm p a c W2 (turned u (darmOf u.x.d n m)) (rturned v (rarmOf v.x.d n m))) (ho : Only (fun j => p.D j ∨ p.R j) W W2) : CSt p a c w0 k W2 (turned u (darmOf u.x.d n m)) (rturned v (rarmOf v.x.d n m)) := by
  have hrok := h.su.sc.rok
  have hok := h.rm.ok
  have hsim := sim_arm h.su.sc.sim hrok.s0 n m
  have hd : (darmOf u.x.d n m).b = u.x.d.b ∧ (darmOf u.x.d n m).worn = u.x.d.worn ∧ (darmOf u.x.d n m).steps = u.x.d.steps ∧ 0 ≤ (darmOf u.x.d n m).after ∧ (darmOf u.x.d n m).after ≤ 9223372036854775807 ∧ (darmOf u.x.d n m).pick.length ≤ 1024 := by
    unfold darmOf
    split
    · exact ⟨rfl, rfl, rfl, Int.le_refl _, by dsimp only; omega, by simp⟩
    · exact ⟨rfl, rfl, rfl, by dsimp only; omega, hn, by simp; omega⟩
  refine ⟨hc, ⟨⟨hsim, ⟨hrok.len, hrok.few, hrok.worn, hrok.s0, hrok.s1, ?_, ?_, by show m.length ≤ _; omega⟩, h.su.sc.hi, h.su.sc.ent⟩, h.su.at_, h.su.held, h.su.dead⟩, h.lo, ⟨⟨?_, ?_, ?_, ?_, ?_, hd.2.2.2.1, hd.2.2.2.2.1, hd.2.2.2.2.2⟩, ?_, ?_⟩, h.bel.trans (ho.below h.bel.size (fun j hj q => by have := h.hi j q; omega)), h.hi, by show (darmOf u.x.d n m).b.length = _; rw [hd.1]; exact h.bl⟩
  · show -1 ≤ (if n < -1 then (-1 : Int) else if 4611686018427387904 < n then 4611686018427387904 else n)
    split <;> (try split) <;> omega
  · show (if n < -1 then (-1 : Int) else if 4611686018427387904 < n then 4611686018427387904 else n) ≤ _
    split <;> (try split) <;> omega
  · show (darmOf u.x.d n m).b.length = _; rw [hd.1]; show _ = 1024 * (darmOf u.x.d n m).worn.length; rw [hd.2.1]; exact hok.len
  · show (darmOf u.x.d n m).worn.length ≤ _; rw [hd.2.1]; exact hok.few
  · show ∀ x ∈ (darmOf u.x.d n m).worn, _; rw [hd.2.1]; exact hok.worn
  · show 0 ≤ (darmOf u.x.d n m).steps; rw [hd.2.2.1]; exact hok.s0
  · show (darmOf u.x.d n m).steps ≤ _; rw [hd.2.2.1]; exact hok.s1
  · show (darmOf u.x.d n m).steps + k ≤ _; rw [hd.2.2.1]; have := h.rm.steps; omega
  · show ∀ x ∈ (darmOf u.x.d n m).worn, _; rw [hd.2.1]; intro x hx; have := h.rm.worn x hx; omega
theorem cst_boot {p : CuA} {a c : Nat} {w0 W W2 : World} {k : Int} {u : Cu Dl} {v : Cu Fl} (h : CSt p a c w0 (k + 20000) W u v) (hc : CPm p a c W2 (turned u ⟨u.x.d.b, u.x.d.worn, u.x.d.steps, false, false, 0, []⟩) (rturned v ⟨v.x.d.b, v.x.d.worn, v.x.d.steps, -1, [], false⟩)) (ho : Only (fun j => p.D j ∨ p.R j) W W2) :
    CSt p a c w0 k W2 (turned u ⟨u.x.d.b, u.x.d.worn, u.x.d.steps, false, false, 0, []⟩) (rturned v ⟨v.x.d.b, v.x.d.worn, v.x.d.steps, -1, [], false⟩) := by
  have hrok := h.su.sc.rok
  have hok := h.rm.ok
  exact ⟨hc, ⟨⟨sim_boot h.su.sc.sim, ⟨hrok.len, hrok.few, hrok.worn, hrok.s0, hrok.s1, by show (-1 : Int) ≤ -1; omega, by show (-1 : Int) ≤ _; omega, by show 0 ≤ _; omega⟩, h.su.sc.hi, h.su.sc.ent⟩, h.su.at_, h.su.held, h.su.dead⟩, h.lo,
    ⟨⟨hok.len, hok.few, hok.worn, hok.s0, hok.s1, Int.le_refl _, by show (0 : Int) ≤ _; omega, by show 0 ≤ _; omega⟩, by have := h.rm.steps; show u.x.d.steps + k ≤ _; omega, fun x hx => by have := h.rm.worn x hx; omega⟩, h.bel.trans (ho.below h.bel.size (fun j hj q => by have := h.hi j q; omega)), h.hi, h.bl⟩
theorem CSt.less {p : CuA} {a c : Nat} {w0 W : World} {k n : Int} {u : Cu Dl} {v : Cu Fl} (h : CSt p a c w0 k W u v) (hn : n ≤ k) : CSt p a c w0 n W u v := ⟨h.cp, h.su, h.lo, h.rm.less hn, h.bel, h.hi, h.bl⟩
/-- what the law asks of both -/
theorem cst_ask {p : CuA} {a c : Nat} {w0 W : World} {k : Int} {u : Cu Dl} {v : Cu Fl} (h : CSt p a c w0 k W u v) : ∃ n z st sh AH cH,
    Hid ((∀ W', Below W.heap.size W W' → Calls Try.prog 27 #[.pointer (some ⟨p.g, 0, none⟩)] W' fun e w' => e = .returned (.int .i64 n) ∧ W' = w') ∧
      (∀ W', Below W.heap.size W W' → W'.cell? ⟨p.q.g, 3, none⟩ = some (.int .i64 n)) ∧
      (∀ W', Below W.heap.size W W' → Calls Try.prog 28 #[.pointer (some ⟨p.g, 0, none⟩)] W' (RetOb 5 W' u.held)) ∧ u.held.length = z ∧ strB u.held = sh ∧
      (∀ W', Below W.heap.size W W' → W'.cell? ⟨p.q.g, 4, none⟩ = some (.slice AH z cH)) ∧
      (∀ W', Below W.heap.size W W' → Bs W' AH u.held) ∧
      (∀ W', Below W.heap.size W W' → Calls Try.prog 29 #[.pointer (some ⟨p.fa.g, 0, none⟩)] W' fun e w' => e = .returned (.int .i64 st) ∧ W' = w') ∧
      (∀ W', Below W.heap.size W W' → W'.cell? ⟨p.h, 2, none⟩ = some (.int .i64 st))) := by
  obtain ⟨rd, en, hu, -, -⟩ := h.cp.ref.cu
  obtain ⟨AH, cH, hg, hbs, -, -⟩ := hu.cells
  obtain ⟨AP, cP, hf, -, -⟩ := h.cp.ref.fl.cells
  refine ⟨(u.at_ : Int), u.held.length, u.x.d.steps, strB u.held, AH, cH, Lib.hid ⟨fun W' hW => cat_any (h.cp.dev.below hW), fun W' hW => ?_, fun W' hW => cheld_any (h.cp.dev.below hW), rfl, rfl, fun W' hW => ?_, fun W' hW => ?_, fun W' hW => ?_, fun W' hW => ?_⟩⟩
  · rw [hW.cell (p := ⟨p.q.g, 3, none⟩) hu.blk.1, cell_of_row _ _ _ _ _ _ hg, h.su.at_]; rfl
  · rw [hW.cell (p := ⟨p.q.g, 4, none⟩) hu.blk.1, cell_of_row _ _ _ _ _ _ hg, h.su.held]; rfl
  · rw [h.su.held]; exact hbs.below hW
  · obtain ⟨N', hd, -⟩ := h.cp.dev.fl
    exact dsteps_any (hd.below hW)
  · rw [hW.cell (p := ⟨p.h, 2, none⟩) (Array.getElem?_eq_some_iff.1 hf).1, cell_of_row _ _ _ _ _ _ hf, h.su.sc.sim.steps]; rfl
end Go.Proofs.Ytcpkmhhlcmnfdaa

