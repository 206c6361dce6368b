/-
  A part of what the proof of EdVerifies rests on: plain lemmas and contracts of the functions that it calls. No conditions but what each theorem states.
-/
import Derived.Test.YtkgodlcnoenmbaaGreatEdVerifiesK0
import Derived.Lib.Hide
import Derived.Laws.Rows
import Derived.Laws.Tables
import Derived.WalkKit
import Derived.Deep.Draws
import Derived.Laws.BytesArg
import Derived.Laws.BitsAllLaws
import Derived.Laws.AppendOwnNone
import Derived.WalkSpells
import Derived.Below
import Derived.Test.YtkgodlcnoenmbaaGreatRows
import Derived.BigQuiet
import Derived.BigRegion
import Derived.RegionTactic
import Derived.WalkLawsBesides
import Derived.Deep.DeepCutAuto
import Derived.Deep.CutBlock
import Derived.Deep.RegionWith
import Derived.Deep.RegionHeld3
import Derived.Laws.StructEq
import Derived.Shelf.Bits.Mul64
import Derived.Shelf.Spec.BitsCarry
namespace Go.Proofs.YtkgodlcnoenmbaaGreat
open Go.RowKit
set_option linter.unusedVariables false
set_option maxRecDepth 100000
set_option maxHeartbeats 6400000
theorem yh {p:Prop} (h:p):Hid p:=Lib.hid h
theorem ym {K:Nat} (E:Nat) (h:E<K):∃ y,Hid (E=y)∧Hid (y<K):=⟨E,Lib.hid rfl,Lib.hid h⟩
theorem yx {α:Type} (E:α):∃ y,Hid (E=y):=⟨E,Lib.hid rfl⟩
section
variable {P:Program}
theorem yi {ops:Array Oper} {rest:List Oper} {o:Oper} {a:Act} {w:World} {Q:Exit→Act→World→Prop} {ty t:TypeId} {x:Operand} {g:Nat} {cs:Array Value} {fr:Nat × Nat} {d:TypeDesc}
  (hg:w.heap[g]?=some (.cells cs t fr)) (hu:P.underlying ty=some d) (hi:(P.info? ty).map (·.size)=some cs.size) (h:wpList P ops Q rest (a.put o.dst (.agg cs)) w)
  (ho:o.op=.load ty x:=by exact rfl) (hx:a.eval x=.pointer (some ⟨g,0,none⟩):=by exact rfl) (hgd:o.guard=none:=by exact rfl) (hd:(match d with | .struct _ | .array _ _=>true | _=>false)=true:=by rfl):wpList P ops Q (o :: rest) a w :=
 wpList_load_row hgd ty x ho g hx t cs fr d hg hu hd hi h
theorem yj {ops:Array Oper} {rest:List Oper} {o:Oper} {a:Act} {w:World} {Q:Exit→Act→World→Prop} {ty t:TypeId} {x y:Operand} {g:Nat} {old:Array Value} (cs:Array Value)
  (hg:w.heap[g]?=some (.cells old t (0,0))) (hi:(P.info? ty).map (·.size)=some cs.size) (hs:old.size=cs.size) (h1:cs.all (·.oneCell')=true) (h:wpList P ops Q rest (a.put o.dst undef) (w.setRow g cs))
  (ho:o.op=.store ty x y:=by exact rfl) (hx:a.eval x=.pointer (some ⟨g,0,none⟩):=by exact rfl) (hy:a.eval y=.agg cs:=by exact rfl) (hgd:o.guard=none:=by exact rfl):wpList P ops Q (o :: rest) a w :=
 wpList_store_row hgd ty x y ho g cs hx hy t old hg hi hs h1 h
end
end Go.Proofs.YtkgodlcnoenmbaaGreat
namespace Go.Proofs.YtkgodlcnoenmbaaGreat
open Go.RowKit
set_option linter.unusedVariables false
set_option maxRecDepth 100000
def Bs (w:World) (A:Option Addr) (l:List UInt8):Prop :=
 0<l.length→∃ b o,A=some ⟨b,o,none⟩∧∀ j,j<l.length→w.cell? ⟨b,o+j,none⟩=some (.int .u8 ((l.getD j 0).toNat:Int))
theorem addr_add (b o y:Nat):(⟨b,o,none⟩:Addr).add y=⟨b,o+y,none⟩:=by unfold Addr.add;split <;> simp_all
theorem Bs.nil_ (w:World) (A:Option Addr):Bs w A []:=fun h=>absurd h (by simp)
theorem Bs.at_ {w:World} {A:Option Addr} {l:List UInt8} (h:Bs w A l) {k:Nat} (hk:k<l.length) :
  ∃ b o,A=some ⟨b,o,none⟩∧w.cell? ⟨b,o+k,none⟩=some (.int .u8 ((l.getD k 0).toNat:Int)):=by
 obtain ⟨b,o,e,hc⟩:=h (by omega)
 exact ⟨b,o,e,hc k hk⟩
theorem Bs.drewN {w:World} {A:Option Addr} {l:List UInt8} (h:Bs w A l) (n:Nat):Bs (w.drewN n) A l:=h
theorem Bs.below {w w':World} {A:Option Addr} {l:List UInt8} (h:Bs w A l) (hb:Below w.heap.size w w'):Bs w' A l:=fun hl=>by
 obtain ⟨b,o,e,hc⟩:=h hl
 refine ⟨b,o,e,fun j hj=>?_⟩
 have hcj:=hc j hj
 have hlt:=World.block_lt_of_cell? w _ hcj
 rw [hb.cell hlt]
 exact hcj
theorem zaQ {B:Nat} {a w:World} (h:Below B a w) (n:Nat):Below B a (w.drewN n):=⟨h.os,h.tape,h.output,h.size,h.block⟩
def bval (x:UInt8):Value:=.int .u8 (x.toNat:Int)
theorem Bs.news {w:World} {a:Addr} {l:List UInt8} (h:Bs w (some a) l):∀ j u,(l.map bval)[j]?=some u→w.cell? (a.add j)=some u:=by
 intro j u hu
 have hj:j<l.length:=by
  rcases Nat.lt_or_ge j l.length with h | h
  ·exact h
  ·rw [List.getElem?_eq_none (by simpa using h)] at hu;cases hu
 obtain ⟨b,o,e,hc⟩:=h (by omega)
 injection e with e
 subst e
 have hadd:(⟨b,o,none⟩:Addr).add j=⟨b,o+j,none⟩:=by unfold Addr.add;split <;> simp_all
 rw [hadd,hc j hj]
 rw [List.getElem?_map,List.getElem?_eq_getElem hj] at hu
 simp at hu
 subst hu
 simp [bval,List.getD,List.getElem?_eq_getElem hj]
def Ob (E:TypeId) (w:World) (base:Nat) (v:Value) (l:List UInt8):Prop:=w.ownsRow base E 1 v l.length (l.map bval)
theorem Ob.nil_ (E:TypeId) (w:World) (base:Nat):Ob E w base (.slice none 0 0) []:=World.ownsRow_nil w base E 1
theorem Ob.form {E:TypeId} {w:World} {base:Nat} {v:Value} {l:List UInt8} (h:Ob E w base v l) :
  ∃ A c,v=.slice A l.length c∧Bs w A l∧(A=none∨∃ g,A=some ⟨g,0,none⟩∧base≤g∧g<w.heap.size):=by
 rcases h.2 with ⟨rfl,hn⟩ | ⟨g,cap,cur,rfl,hb,hg,hnc,hcm,hcs,htake⟩
 ·have:l=[]:=List.eq_nil_of_length_eq_zero hn
  subst this
  exact ⟨none,0,rfl,Bs.nil_ _ _,.inl rfl⟩
 ·refine ⟨_,cap,rfl,fun hl=>⟨g,0,rfl,fun j hj=>?_⟩,.inr ⟨g,rfl,hb,(Array.getElem?_eq_some_iff.1 hg).1⟩⟩
  have:=World.ownsRow.cellAt h j (by omega)
  rw [Nat.zero_add,this,List.getElem?_map,List.getElem?_eq_getElem hj]
  simp [bval,List.getD,List.getElem?_eq_getElem hj]
theorem Ob.bs {E:TypeId} {w:World} {base:Nat} {A:Option Addr} {n c:Nat} {l:List UInt8} (h:Ob E w base (.slice A n c) l):Bs w A l:=by
 obtain ⟨A',c',e,hb,_⟩:=h.form
 injection e with e1 e2 e3
 subst e1
 exact hb
theorem Ob.below {E:TypeId} {w w':World} {base:Nat} {v:Value} {l:List UInt8} (h:Ob E w base v l) (hb:Below w.heap.size w w'):Ob E w' base v l:=by
 refine ⟨h.1,?_⟩
 rcases h.2 with hn | ⟨g,cap,cur,rfl,hb',hg,rest⟩
 ·exact .inl hn
 ·refine .inr ⟨g,cap,cur,rfl,hb',?_,rest⟩
  rw [hb.block g (Array.getElem?_eq_some_iff.1 hg).1]
  exact hg
theorem Ob.drewN {E:TypeId} {w:World} {base:Nat} {v:Value} {l:List UInt8} (h:Ob E w base v l) (n:Nat):Ob E (w.drewN n) base v l:=h
theorem Ob.low {E:TypeId} {w:World} {base base':Nat} {v:Value} {l:List UInt8} (h:Ob E w base v l) (hb:base'≤base):Ob E w base' v l:=by
 refine ⟨h.1,?_⟩
 rcases h.2 with hn | ⟨g,cap,cur,rfl,hb',rest⟩
 ·exact .inl hn
 ·exact .inr ⟨g,cap,cur,rfl,by omega,rest⟩
theorem Ob.len {E:TypeId} {w:World} {base:Nat} {A:Option Addr} {n c:Nat} {l:List UInt8} (h:Ob E w base (.slice A n c) l):n=l.length:=by
 obtain ⟨A',c',e,_,_⟩:=h.form
 injection e with e1 e2 e3
theorem Ob.frozen {E:TypeId} {w:World} {base g n c:Nat} {l:List UInt8} (h:Ob E w base (.slice (some ⟨g,0,none⟩) n c) l) (k:Nat):w.frozen? ⟨g,k,none⟩=false:=by
 have:=h.len
 subst this
 exact World.ownsRow.frozenAt h k
theorem Ob.set_ {E:TypeId} {w:World} {base g n c:Nat} {l:List UInt8} (h:Ob E w base (.slice (some ⟨g,0,none⟩) n c) l) (k:Nat) (x:UInt8) :
  Ob E (w.setCell ⟨g,k,none⟩ (bval x)) base (.slice (some ⟨g,0,none⟩) n c) (l.set k x):=by
 obtain ⟨A',c',e,_,_⟩:=h.form
 injection e with e1 e2 e3
 subst e2
 have:=(World.ownsRow.stored h k (bval x)).1
 unfold Ob
 rw [List.map_set,List.length_set]
 exact this
section
variable {P:Program}
theorem run_append_nil_src (w:World) (base:Nat) (t ty e:TypeId) (i:TypeInfo) (ht:P.underlying t=some (.slice e)) (hi:P.info? e=some i)
  (v:Value) (l:List UInt8) (hown:Ob e w base v l) (c:Nat):(Builtin.append_ #[t,t] ty #[v,.slice none 0 c]).run P w=.ok v w:=by
 rcases hown.2 with ⟨rfl,_⟩ | ⟨g,cap,cur,rfl,_,_,hnc,_⟩
 ·simp [Builtin.append_,run_underlying ht,sizeOf,typeInfo,hi,Builtin.lenOf,Builtin.firstCells]
 ·simp [Builtin.append_,run_underlying ht,sizeOf,typeInfo,hi,Builtin.lenOf,Builtin.firstCells,hnc,storeCells]
theorem run_append_bs (w:World) (base:Nat) (t ty e:TypeId) (ht:P.underlying t=some (.slice e))
  (he:(P.info? e).map (fun i=>(i.zero,i.size,i.bytes))=some (some (.int .u8 0),1,1))
  (v:Value) (l:List UInt8) (hown:Ob e w base v l) (A:Option Addr) (m:List UInt8) (c:Nat) (hm:Bs w A m)
  (hlen:l.length+m.length≤140737488355328) (hbase:base≤w.heap.size) :
  ∃ v' w',(Builtin.append_ #[t,t] ty #[v,.slice A m.length c]).run P w=.ok v' w'∧Ob e w' base v' (l++m)∧w.grownBy w' v.ownBlock:=by
 obtain ⟨i0,hi,hz0,hz1,hz2⟩:=info_parts he
 rcases A with _ | a
 ·have h0:m.length=0:=by
   rcases Nat.eq_zero_or_pos m.length with h | h
   ·exact h
   ·obtain ⟨b,o,e',_⟩:=hm h;cases e'
  have:m=[]:=List.eq_nil_of_length_eq_zero h0
  subst this
  exact ⟨v,w,run_append_nil_src w base t ty e i0 ht hi v l hown c,by simpa using hown,World.grownBy.refl w _⟩
 ·obtain ⟨v',w',hr,h2,h3,_⟩:=run_append_own (P:=P) w base t ty e i0 (.int .u8 0) 1 1 ht hi hz0 hz1 hz2 rfl (by decide) v l.length (l.map bval) hown a m.length c (m.map bval) (by simp)
   hm.news (fun u hu=>by obtain ⟨x,_,rfl⟩:=List.mem_map.1 hu;rfl) (by unfold maxLen;omega) (by omega) hbase
  refine ⟨v',w',hr,?_,h3⟩
  unfold Ob
  rw [List.map_append,List.length_append]
  exact h2
theorem zaz {w:World} {ops:Array Oper} {rest:List Oper} {o:Oper} {a:Act} {Q:Exit→Act→World→Prop} (hgd:o.guard=none) (s x:Operand) (t:TypeId)
  (ho:o.op=.call { callee:=.builtin .append,args:=#[s,x],argTypes:=#[t,t] }) (base:Nat) (e:TypeId) (ht:P.underlying t=some (.slice e))
  (he:(P.info? e).map (fun i=>(i.zero,i.size,i.bytes))=some (some (.int .u8 0),1,1))
  (v:Value) (l:List UInt8) (hs:a.eval s=v) (hown:Ob e w base v l) (A:Option Addr) (m:List UInt8) (n c:Nat) (hx:a.eval x=.slice A n c) (hn:n=m.length) (hm:Bs w A m)
  (hlen:l.length+m.length≤140737488355328) (hbase:base≤w.heap.size)
  (h:∀ v' w',Ob e w' base v' (l++m)→w.grownBy w' v.ownBlock→wpList P ops Q rest (a.put o.dst v') w'):wpList P ops Q (o :: rest) a w:=by
 subst hn
 refine wpList_plain hgd fun K hK=>?_
 obtain ⟨v',w',hrun,h2,h3⟩:=run_append_bs (P:=P) w base t o.type e ht he v l hown A m c hm hlen hbase
 unfold Oper.wp execOp
 simp only [ho,resolve,invoke,builtin,Sem.run_bind,Sem.run_pure,Result.andThen_ok,List.map_toArray,List.map_cons,List.map_nil,hs,hx,hrun]
 exact hK _ _ (h v' w' h2 h3)
end
theorem step_append_bs {P:Program} {ops:Array Oper} {o:Oper} {a:Act} {w:World} {K:Act→World→Prop} {Q:Exit→Act→World→Prop} {E:Prop} (hgd:o.guard=none) (s x:Operand) (t:TypeId)
  (ho:o.op=.call { callee:=.builtin .append,args:=#[s,x],argTypes:=#[t,t] }) (base:Nat) (e:TypeId) (ht:P.underlying t=some (.slice e))
  (he:(P.info? e).map (fun i=>(i.zero,i.size,i.bytes))=some (some (.int .u8 0),1,1))
  (v:Value) (l:List UInt8) (hs:a.eval s=v) (hown:Ob e w base v l) (A:Option Addr) (m:List UInt8) (n c:Nat) (hx:a.eval x=.slice A n c) (hn:n=m.length) (hm:Bs w A m)
  (hlen:l.length+m.length≤140737488355328) (hbase:base≤w.heap.size)
  (h:∀ v' w',Ob e w' base v' (l++m)→w.grownBy w' v.ownBlock→K (a.put o.dst v') w'):if Region.wanted o (yielded ops a.tmps)=true then Oper.wp P o a w K Q else E:=by
 have hw:Region.wanted o (yielded ops a.tmps)=true:=by simp [Region.wanted,hgd]
 rw [if_pos hw]
 subst hn
 obtain ⟨v',w',hrun,h2,h3⟩:=run_append_bs (P:=P) w base t o.type e ht he v l hown A m c hm hlen hbase
 unfold Oper.wp execOp
 simp only [ho,resolve,invoke,builtin,Sem.run_bind,Sem.run_pure,Result.andThen_ok,List.map_toArray,List.map_cons,List.map_nil,hs,hx,hrun]
 exact h v' w' h2 h3
theorem below_of_grown {w w':World} (h:w.grownBy w' none):Below w.heap.size w w':=⟨h.os,h.tape,h.output,h.size,fun k hk=>h.block k hk (by simp)⟩
theorem u8_and' (x y:UInt8):bits .and .u8 (x.toNat:Int) (y.toNat:Int)=((x &&& y).toNat:Int):=by
 rw [u8_and_nat _ _ x.toNat_lt y.toNat_lt,UInt8.toNat_and]
theorem u8_or' (x y:UInt8):bits .or .u8 (x.toNat:Int) (y.toNat:Int)=((x ||| y).toNat:Int):=by
 rw [u8_or_nat _ _ x.toNat_lt y.toNat_lt,UInt8.toNat_or]
theorem getD_map_range (f:Nat→UInt8) (n i:Nat) (h:i<n):((List.range n).map f).getD i 0=f i:=by
 simp [List.getD,h]
theorem zbE {l m:List UInt8} (h:l.length=m.length) (hc:∀ i,i<l.length→l.getD i 0=m.getD i 0):l=m:=by
 apply List.ext_getElem h
 intro i h1 h2
 have:=hc i h1
 simpa [List.getD,List.getElem?_eq_getElem h1,List.getElem?_eq_getElem h2] using this
theorem getD_set (l:List UInt8) (k i:Nat) (x:UInt8) (h:i<l.length):(l.set k x).getD i 0=if k=i then x else l.getD i 0:=by
 simp only [List.getD,List.getElem?_set]
 by_cases e:k=i
 ·subst e;simp [h]
 ·simp [e]
theorem range_set (n k:Nat) (f g:Nat→UInt8) (hk:k<n) (h1:∀ i,i≠k→f i=g i):((List.range n).map f).set k (g k)=(List.range n).map g:=by
 apply zbE (by simp)
 intro i hi
 simp at hi
 rw [getD_set _ _ _ _ (by simpa using hi),getD_map_range _ _ _ hi,getD_map_range _ _ _ hi]
 by_cases e:k=i
 ·subst e;simp
 ·rw [if_neg e,h1 i (by omega)]
def IsRow (k:IntKind) (w:World) (a:Option Addr) (len cap:Nat) (zs:List Int):Prop :=
 (a=none∧len=0∧cap=0∧zs=[]) ∨
 ∃ x,a=some x∧len≤cap∧cap≤maxLen∧zs.length=cap∧(∀ i,i<zs.length→w.cell? (x.add i)=some (.int k (zs.getD i 0)))∧∀ n ∈ zs,(Lit.int k n).wf=true
theorem isRow_bs {w:World} {a:Option Addr} {len cap:Nat} {zs:List Int} (h:IsRow .u8 w a len cap zs):∃ l:List UInt8,l.length=len∧Bs w a l:=by
 rcases h with ⟨rfl,rfl,rfl,rfl⟩ | ⟨x,rfl,hl,hm,hz,hcell,hwz⟩
 ·exact ⟨[],rfl,Bs.nil_ _ _⟩
 ·refine ⟨(zs.take len).map fun n=>UInt8.ofNat n.toNat,by simp;omega,fun h0=>?_⟩
  have hlen:0<len:=by simp at h0;omega
  obtain ⟨b,off,spot⟩:=x
  have hc:=hcell 0 (by omega)
  have hspot:spot=none:=by simpa [Addr.add] using World.cell?_spot hc
  subst hspot
  refine ⟨b,off,rfl,fun j hj=>?_⟩
  have hj':j<len:=by simp at hj;omega
  have hadd:(⟨b,off,none⟩:Addr).add j=⟨b,off+j,none⟩:=by unfold Addr.add;split <;> simp_all
  have:=hcell j (by omega)
  rw [hadd] at this
  rw [this]
  have hjz:j<zs.length:=by omega
  have hw:=hwz zs[j] (List.getElem_mem hjz)
  have hbd:0≤zs[j]∧zs[j]≤255:=by simpa [Lit.wf,IntKind.min,IntKind.max,IntKind.signed,IntKind.bits] using hw
  have e1:zs.getD j 0=zs[j]:=by simp [List.getD,List.getElem?_eq_getElem hjz]
  have e2:((zs.take len).map fun n=>UInt8.ofNat n.toNat).getD j 0=UInt8.ofNat zs[j].toNat:=by
   simp [List.getD,hj',List.getElem?_eq_getElem hjz]
  rw [e1,e2]
  have e3:(UInt8.ofNat zs[j].toNat).toNat=zs[j].toNat:=by
   rw [UInt8.toNat_ofNat']
   omega
  rw [e3]
  congr 2
  omega
end Go.Proofs.YtkgodlcnoenmbaaGreat
namespace Go.Proofs.YtkgodlcnoenmbaaGreat
open Go.RowKit
set_option linter.unusedVariables false
set_option maxRecDepth 100000
theorem info5:(Tryz.prog.info? 5).map (fun i=>(i.zero,i.size,i.bytes))=some (some (.int .u8 0),1,1):=by kernel_rfl
def RetOb (E:TypeId) (w:World) (l:List UInt8) (e:Ending) (w':World):Prop:=∃ v,e=.returned v∧Ob E w' w.heap.size v l∧Below w.heap.size w w'
theorem Ob.one {E:TypeId} {w:World} {base:Nat} {v:Value} {x:UInt8} (h:Ob E w base v [x]) :
  ∃ g c,v=.slice (some ⟨g,0,none⟩) 1 c∧w.cell? ⟨g,0,none⟩=some (.int .u8 (x.toNat:Int))∧g<w.heap.size:=by
 obtain ⟨A,c,rfl,hb,hf⟩:=h.form
 obtain ⟨b,o,rfl,hc⟩:=hb.at_ (k:=0) (by simp)
 rcases hf with e | ⟨g,e,-,hg⟩
 ·cases e
 ·injection e with e
  injection e with e1 e2
  subst e1
  subst e2
  exact ⟨b,c,rfl,by simpa using hc,hg⟩
theorem bs_lit1 (w:World) (E:TypeId) (x:UInt8):Bs (w.alloc (.cells #[.int .u8 (x.toNat:Int)] E)) (some ⟨w.heap.size,0,none⟩) [x]:=fun _ =>
 ⟨_,_,rfl,fun j hj=>by
  have:j=0:=by simpa using hj
  subst this
  have:=heap_alloc_new w (.cells #[.int .u8 (x.toNat:Int)] E)
  rw [cell_of_row _ _ _ _ _ _ this]
  simp⟩
@[go_sem] theorem below_drewN_eq (B:Nat) (a w:World) (n:Nat):Below B a (w.drewN n)=Below B a w:=propext ⟨fun h=>⟨h.os,h.tape,h.output,h.size,h.block⟩,fun h=>zaQ h n⟩
@[go_sem] theorem below_drew_eq (B:Nat) (a w:World):Below B a w.drew=Below B a w:=propext ⟨fun h=>⟨h.os,h.tape,h.output,h.size,h.block⟩,fun h=>h.drew⟩
end Go.Proofs.YtkgodlcnoenmbaaGreat
namespace Go.Proofs.YtkgodlcnoenmbaaGreat
section
variable {P:Program} {ops:Array Oper} {Q:Exit→Act→World→Prop} {md:Region.Mode} {S:World→Prop}
theorem take_at (i:Nat) {d:Nat} {op:Op} {ty:TypeId} {pos:String} {after:Array Edge} {guard:Option (Nat × Bool)} {v:Value} {fuel:Nat} {listed:Array Bool} {l l':List Value} {df:List Deferred} {w:World}
  (hi:ops[i]?=some ⟨some d,op,ty,pos,after,guard⟩)
  (hs:Region.noSelect ops=true) (hf:Region.free md ops listed i=true) (hr:(Region.ready md ops listed).contains i=true)
  (hQ:∀ c a w,Q (.panic c) (a.put (some d) v) w→Q (.panic c) a w)
  (hw:Region.wanted ⟨some d,op,ty,pos,after,guard⟩ (yielded ops l.toArray)=true) (hS:S w)
  (hy:∀ w,S w→(execOp (Act.eval ⟨l.toArray,df⟩) ⟨some d,op,ty,pos,after,guard⟩).run P w=.ok (.value v) w)
  (hl:l.set d v=l')
  (h:wpAnyH P md ops Q S fuel (listed.setIfInBounds i true) ⟨l'.toArray,df⟩ w):wpAnyH P md ops Q S (fuel+1) listed ⟨l.toArray,df⟩ w:=by
 refine wpAnyH_take hi hs hf hr hQ (.inl ⟨hw,hy⟩) hS ?_
 subst hl
 simpa [Act.put] using h
theorem yk (i:Nat) {d:Nat} {op:Op} {ty:TypeId} {pos:String} {after:Array Edge} {guard:Option (Nat × Bool)} {v:Value} {fuel:Nat} {listed:Array Bool} {l l':List Value} {df:List Deferred} {w:World}
  (hS:S w) (h:wpAnyH P md ops Q S fuel (listed.setIfInBounds i true) ⟨l'.toArray,df⟩ w)
  (hi:ops[i]?=some ⟨some d,op,ty,pos,after,guard⟩:=by rfl) (hs:Region.noSelect ops=true:=by kernel_rfl) (hf:Region.free md ops listed i=true:=by kernel_rfl) (hr:(Region.ready md ops listed).contains i=true:=by kernel_rfl) (hQ:∀ c a w,Q (.panic c) (a.put (some d) v) w→Q (.panic c) a w:=by exact fun _ _ _ h=>h) (hw:Region.wanted ⟨some d,op,ty,pos,after,guard⟩ (yielded ops l.toArray)=true:=by rfl) (hy:∀ w,S w→(execOp (Act.eval ⟨l.toArray,df⟩) ⟨some d,op,ty,pos,after,guard⟩).run P w=.ok (.value v) w:=by intro W hSW;go_simp;try with_reducible rfl) (hl:l.set d v=l':=by simp only [List.set_cons_succ,List.set_cons_zero];rfl):wpAnyH P md ops Q S (fuel+1) listed ⟨l.toArray,df⟩ w :=
 take_at i hi hs hf hr hQ hw hS hy hl h
theorem held_mono {S S2:World→Prop} (hS:∀ w,S2 w→S w):∀ (fuel:Nat) (listed:Array Bool) (a:Act) (w:World),wpAnyH P md ops Q S2 fuel listed a w→wpAnyH P md ops Q S fuel listed a w
 | 0,_,_,_,h=>h
 | fuel+1,_,_,_,h=>⟨h.1,fun i hi=>wpOp_mono (fun a' w' h'=>⟨hS _ h'.1,held_mono hS fuel _ a' w' h'.2⟩) (h.2 i hi)⟩
theorem call_at (i:Nat) {d:Option Tmp} {op:Op} {ty:TypeId} {pos:String} {after:Array Edge} {guard:Option (Nat × Bool)} {fuel:Nat} {listed:Array Bool} {a:Act} {w:World}
  (ho:ops[i]?=some ⟨d,op,ty,pos,after,guard⟩) (hr:Region.ready md ops listed=[i])
  (hw:Region.wanted ⟨d,op,ty,pos,after,guard⟩ (yielded ops a.tmps)=true)
  (h:∀ K':Act→World→Prop,Shut (∀ a w,S w→(S w→wpAnyH P md ops Q S fuel (listed.setIfInBounds i true) a w)→K' a w)→Oper.wp P ⟨d,op,ty,pos,after,guard⟩ a w K' Q) :
  wpAnyH P md ops Q S (fuel+1) listed a w :=
 wpAnyH_ready hr (by simp) (AllReadyH.cons ho (fun K' hK=>by rw [if_pos hw];exact h K' hK) AllReadyH.nil)
theorem xk (i:Nat) {d:Option Tmp} {op:Op} {ty:TypeId} {pos:String} {after:Array Edge} {guard:Option (Nat × Bool)} {fuel:Nat} {listed:Array Bool} {a:Act} {w:World}
  (h:∀ K':Act→World→Prop,Shut (∀ a w,S w→(S w→wpAnyH P md ops Q S fuel (listed.setIfInBounds i true) a w)→K' a w)→Oper.wp P ⟨d,op,ty,pos,after,guard⟩ a w K' Q)
  (ho:ops[i]?=some ⟨d,op,ty,pos,after,guard⟩:=by rfl) (hr:Region.ready md ops listed=[i]:=by kernel_rfl) (hw:Region.wanted ⟨d,op,ty,pos,after,guard⟩ (yielded ops a.tmps)=true:=by rfl):wpAnyH P md ops Q S (fuel+1) listed a w :=
 call_at i ho hr hw h
end
end Go.Proofs.YtkgodlcnoenmbaaGreat
namespace Go.Proofs.YtkgodlcnoenmbaaGreat
open Go.RowKit
set_option linter.unusedVariables false
set_option maxRecDepth 100000
structure Only (F:Nat→Prop) (w w':World):Prop where
 os:w'.os=w.os
 tape:w'.tape=w.tape
 output:w'.output=w.output
 size:w.heap.size≤w'.heap.size
 block:∀ k,k<w.heap.size→¬ F k→w'.heap[k]?=w.heap[k]?
section
variable {F F':Nat→Prop} {w w' w'':World}
theorem Only.refl (F:Nat→Prop) (w:World):Only F w w:=⟨rfl,rfl,rfl,Nat.le_refl _,fun _ _ _=>rfl⟩
theorem Only.of_below (h:Below w.heap.size w w'):Only F w w':=⟨h.os,h.tape,h.output,h.size,fun k hk _=>h.block k hk⟩
theorem Only.trans (h:Only F w w') (k:Only F w' w''):Only F w w'' :=
 ⟨k.os.trans h.os,k.tape.trans h.tape,k.output.trans h.output,Nat.le_trans h.size k.size,fun i hi hn=>(k.block i (Nat.lt_of_lt_of_le hi h.size) hn).trans (h.block i hi hn)⟩
theorem Only.mono (h:Only F w w') (hF:∀ k,k<w.heap.size→F k→F' k):Only F' w w' :=
 ⟨h.os,h.tape,h.output,h.size,fun k hk hn=>h.block k hk fun hf=>hn (hF k hk hf)⟩
theorem Only.below (h:Only F w w') {B:Nat} (hB:B≤w.heap.size) (hF:∀ k,k<B→¬ F k):Below B w w' :=
 ⟨h.os,h.tape,h.output,h.size,fun k hk=>h.block k (by omega) (hF k hk)⟩
theorem Only.drewN (h:Only F w w') (n:Nat):Only F w (w'.drewN n):=⟨h.os,h.tape,h.output,h.size,h.block⟩
theorem Only.drew (h:Only F w w'):Only F w w'.drew:=⟨h.os,h.tape,h.output,h.size,h.block⟩
theorem Only.alloc (h:Only F w w') (o:Obj):Only F w (w'.alloc o) :=
 h.trans ⟨rfl,rfl,rfl,by simp,fun k hk _=>Below.heap_alloc _ _ _ hk⟩
theorem Only.setCell (h:Only F w w') {p:Addr} (hp:F p.block∨w.heap.size≤p.block) (u:Value):Only F w (w'.setCell p u) :=
 ⟨h.os,h.tape,h.output,by simpa [World.setCell] using h.size,fun k hk hn=>(Below.heap_setCell _ _ _ _ (by
  rintro rfl
  rcases hp with hp | hp
  ·exact hn hp
  ·omega)).trans (h.block k hk hn)⟩
theorem Only.grown (h:Only F w w') {row:Option Nat} (hg:w'.grownBy w'' row) (hr:∀ k,row=some k→F k∨w.heap.size≤k):Only F w w'' :=
 ⟨hg.os.trans h.os,hg.tape.trans h.tape,hg.output.trans h.output,Nat.le_trans h.size hg.size,fun k hk hn=>(hg.block k (Nat.lt_of_lt_of_le hk h.size) (fun e=>by
  rcases hr k e.symm with hr | hr
  ·exact hn hr
  ·omega)).trans (h.block k hk hn)⟩
def At (A:Option Addr) (k:Nat):Prop:=∃ a,A=some a∧a.block=k
theorem Bs.only {A:Option Addr} {l:List UInt8} (h:Bs w A l) (hb:Only F w w') (hA:∀ k,At A k→¬ F k):Bs w' A l:=fun hl=>by
 obtain ⟨b,o,e,hc⟩:=h hl
 subst e
 refine ⟨b,o,rfl,fun j hj=>?_⟩
 have hcj:=hc j hj
 have hlt:=World.block_lt_of_cell? w _ hcj
 rw [World.cell?_of_block (hb.block b hlt (hA b ⟨_,rfl,rfl⟩))]
 exact hcj
theorem Ob.only {E:TypeId} {base:Nat} {A:Option Addr} {n c:Nat} {l:List UInt8} (h:Ob E w base (.slice A n c) l) (hb:Only F w w') (hA:∀ k,At A k→¬ F k):Ob E w' base (.slice A n c) l:=by
 refine ⟨h.1,?_⟩
 rcases h.2 with hn | ⟨g,cap,cur,e,hb',hg,rest⟩
 ·exact .inl hn
 ·refine .inr ⟨g,cap,cur,e,hb',?_,rest⟩
  injection e with e1 e2 e3
  subst e1
  rw [hb.block g (Array.getElem?_eq_some_iff.1 hg).1 (hA g ⟨_,rfl,rfl⟩)]
  exact hg
end
end Go.Proofs.YtkgodlcnoenmbaaGreat
namespace Go.Proofs.YtkgodlcnoenmbaaGreat
open Go.RowKit
set_option linter.unusedVariables false
set_option maxRecDepth 100000
def updTo (l:List UInt8) (f:Nat→UInt8) (k:Nat):List UInt8:=(List.range l.length).map fun i=>if i<k then f i else l.getD i 0
theorem zbC (l f k):(updTo l f k).length=l.length:=by simp [updTo]
theorem updTo_get {l:List UInt8} {f:Nat→UInt8} {k i:Nat} (h:i<l.length):(updTo l f k).getD i 0=if i<k then f i else l.getD i 0:=by
 simp only [updTo]
 rw [getD_map_range _ _ _ h]
theorem updTo_zero (l f):updTo l f 0=l:=by
 apply zbE (zbC _ _ _)
 intro i hi
 rw [zbC] at hi
 rw [updTo_get hi]
 simp
theorem updTo_step {l:List UInt8} {f:Nat→UInt8} {k:Nat} (hk:k<l.length):(updTo l f k).set k (f k)=updTo l f (k+1):=by
 have:=range_set l.length k (fun i=>if i<k then f i else l.getD i 0) (fun i=>if i<k+1 then f i else l.getD i 0) hk (by
  intro i hi
  by_cases h:i<k
  ·rw [if_pos h,if_pos (by omega)]
  ·rw [if_neg h,if_neg (by omega)])
 simp only [Nat.lt_succ_self,if_true] at this
 exact this
end Go.Proofs.YtkgodlcnoenmbaaGreat
namespace Go.Proofs.YtkgodlcnoenmbaaGreat
open Go.RowKit
set_option linter.unusedVariables false
set_option maxRecDepth 100000
theorem i64_and1 (n:Nat) (h:n<256):bits .and .i64 (n:Int) 1=((n % 2:Nat):Int):=by
 have:=(bits_nat .i64 63 (by decide) (fun m h0 h1=>by rw [IntKind.wrap_i64];omega) n 1 (by omega) (by decide)).1
 rw [Nat.and_one_is_mod] at this
 exact this
def lowMask (k:Nat):UInt8:=UInt8.ofNat (2^k-1)
def part (b f:UInt8) (k:Nat):UInt8:=b ||| (f &&& lowMask k)
end Go.Proofs.YtkgodlcnoenmbaaGreat
namespace Go.Proofs.YtkgodlcnoenmbaaGreat
open Go.RowKit
set_option linter.unusedVariables false
set_option maxRecDepth 100000
theorem make_bytes (k:Nat) (hk:k≤2147483648) (u:World):(Instr.makeSlice 23 (.int .i64 (k:Int)) (.int .i64 (k:Int))).run Tryz.prog u =
   .ok (.slice (some ⟨u.heap.size,0,none⟩) k k) (u.alloc (.cells (madeCells #[.int .u8 0] k) 5)):=by
 obtain ⟨i0,hi,hz0,hz1,hz2⟩:=info_parts info5
 have h:=run_make (P:=Tryz.prog) u 23 5 i0 (.int .u8 0) Tryz.underlying23 hi hz0 .i64 .i64 (k:Int) (k:Int) (by omega) (Int.le_refl _) (by rw [hz2];omega) (by omega)
 simpa [hz1,Value.cells] using h
theorem own_made (w:World) (k:Nat) (E:TypeId) (hk:k≤2147483648):Ob E (w.alloc (.cells (madeCells #[.int .u8 0] k) E)) w.heap.size (.slice (some ⟨w.heap.size,0,none⟩) k k) (List.replicate k 0):=by
 have h:=World.ownsRow_lit (base:=w.heap.size) (e:=E) (size:=1) w (madeCells #[.int .u8 0] k) k (Nat.le_refl _) (by unfold maxLen;omega) (by simp [size_madeCells])
 unfold Ob
 rw [toList_madeCells_one] at h
 simpa [List.map_replicate,bval] using h
end Go.Proofs.YtkgodlcnoenmbaaGreat
namespace Go.Proofs.YtkgodlcnoenmbaaGreat
set_option linter.unusedVariables false
set_option maxRecDepth 100000
def vL:List Int→Int
 | []=>0
 | a :: l=>a+65536*vL l
def gI (l:List Int) (i:Nat):Int:=l.getD i 0
theorem zbn (a:Int) (l:List Int) (i:Nat):gI (a :: l) (i+1)=gI l i:=rfl
theorem gI_zero (a:Int) (l:List Int):gI (a :: l) 0=a:=rfl
theorem gI_set (l:List Int) (i j:Nat) (x:Int) (hi:i<l.length):gI (l.set i x) j=if i=j then x else gI l j:=by
 unfold gI
 simp only [List.getD,List.getElem?_set]
 by_cases h:i=j
 ·subst h;simp [hi]
 ·simp [h]
theorem vL_set:∀ (l:List Int) (i:Nat) (x:Int),i<l.length→vL (l.set i x)=vL l+(x-gI l i)*65536^i
 | [],i,x,h=>by simp at h
 | a :: l,0,x,_=>by simp [vL,gI_zero];omega
 | a :: l,i+1,x,h=>by
  have ih:=vL_set l i x (by simpa using h)
  rw [List.set_cons_succ,vL,vL,ih,zbn,Int.pow_succ,← Int.mul_assoc,Int.mul_comm _ (65536:Int)]
  generalize (x-gI l i)*65536^i=q
  omega
def cstep (l:List Int) (i:Nat):List Int:=(l.set (i+1) (gI l (i+1)+gI l i/65536)).set i (gI l i % 65536)
def zau (l:List Int):Nat→List Int
 | 0=>l
 | k+1=>cstep (zau l k) k
theorem cstep_len (l:List Int) (i:Nat):(cstep l i).length=l.length:=by simp [cstep]
theorem zaP (l:List Int):∀ k,(zau l k).length=l.length
 | 0=>rfl
 | k+1=>by rw [zau,cstep_len,zaP l k]
theorem cstep_get (l:List Int) (i j:Nat) (h:i+1<l.length):gI (cstep l i) j=if j=i then gI l i % 65536 else if j=i+1 then gI l (i+1)+gI l i/65536 else gI l j:=by
 unfold cstep
 rw [gI_set _ _ _ _ (by simp;omega),gI_set _ _ _ _ h]
 by_cases h1:i=j
 ·subst h1;simp
 ·have h1':¬ j=i:=fun e=>h1 e.symm
  by_cases h2:i+1=j
  ·subst h2;simp
  ·have h2':¬ j=i+1:=fun e=>h2 e.symm
   simp only [h1,h1',h2,h2',if_false]
theorem cstep_val (l:List Int) (i:Nat) (h:i+1<l.length):vL (cstep l i)=vL l:=by
 unfold cstep
 rw [vL_set _ _ _ (by simp;omega),vL_set _ _ _ h,gI_set _ _ _ _ h,if_neg (by omega),Int.pow_succ]
 have e:gI l i=65536*(gI l i/65536)+gI l i % 65536:=by omega
 generalize gI l i/65536=q at *
 generalize gI l i % 65536=r at *
 rw [e]
 generalize (65536:Int)^i=p
 grind
theorem carryTo_val (l:List Int):∀ k,k<l.length→vL (zau l k)=vL l
 | 0,_=>rfl
 | k+1,h=>by rw [zau,cstep_val _ _ (by rw [zaP];omega),carryTo_val l k (by omega)]
def Bd (B:Int) (l:List Int):Prop:=∀ i,-B≤gI l i∧gI l i≤B
structure CarrySt (B:Int) (l m:List Int) (k:Nat):Prop where
 low:∀ j,j<k→0≤gI m j∧gI m j<65536
 at_:-(2*B)≤gI m k∧gI m k≤2*B
 high:∀ j,k<j→gI m j=gI l j
theorem carry_st {B:Int} {l:List Int} (hB:2≤B) (hb:Bd B l):∀ k,k<l.length→CarrySt B l (zau l k) k
 | 0,_=>⟨fun j h=>by omega,by have:=hb 0;show -(2*B)≤gI l 0∧gI l 0≤2*B;omega,fun j _=>rfl⟩
 | k+1,h=>by
  have ih:=carry_st hB hb k (by omega)
  have hk:=cstep_get (zau l k) k
  have hlen:k+1<(zau l k).length:=by rw [zaP];exact h
  refine ⟨fun j hj=>?_,?_,fun j hj=>?_⟩
  ·rw [zau,hk j hlen]
   by_cases e:j=k
   ·rw [if_pos e];omega
   ·rw [if_neg e,if_neg (by omega)];exact ih.low j (by omega)
  ·rw [zau,hk (k+1) hlen,if_neg (by omega),if_pos rfl,ih.high (k+1) (by omega)]
   have:=hb (k+1)
   have:=ih.at_
   omega
  ·rw [zau,hk j hlen,if_neg (by omega),if_neg (by omega)];exact ih.high j (by omega)
def Pr (l:List Int):Prop:=∀ i,0≤gI l i∧gI l i<65536
theorem vL_bound:∀ l:List Int,(∀ i,i<l.length→0≤gI l i∧gI l i<65536)→0≤vL l∧vL l<65536^l.length
 | [],_=>by simp [vL]
 | a :: l,h=>by
  have h0:=h 0 (by simp)
  have ih:=vL_bound l (fun i hi=>h (i+1) (by simp;omega))
  rw [gI_zero] at h0
  rw [vL,List.length_cons,Int.pow_succ]
  generalize (65536:Int)^l.length=p at *
  omega
def dgN (n:Nat) (v:Int):List Int:=match n with
 | 0=>[]
 | n+1=>v % 65536 :: dgN n (v/65536)
theorem zaD:∀ n v,(dgN n v).length=n
 | 0,_=>rfl
 | n+1,v=>by simp [dgN,zaD n]
theorem dg_unique:∀ l:List Int,(∀ i,i<l.length→0≤gI l i∧gI l i<65536)→l=dgN l.length (vL l)
 | [],_=>rfl
 | a :: l,h=>by
  have h0:=h 0 (by simp)
  rw [gI_zero] at h0
  have ih:=dg_unique l (fun i hi=>h (i+1) (by simp;omega))
  have e1:(a+65536*vL l) % 65536=a:=by omega
  have e2:(a+65536*vL l)/65536=vL l:=by omega
  rw [List.length_cons,dgN,vL,e1,e2,← ih]
theorem vL_dgN:∀ n (v:Int),0≤v→v<65536^n→vL (dgN n v)=v
 | 0,v,h0,h1=>by simp at h1;show (0:Int)=v;omega
 | n+1,v,h0,h1=>by
  rw [Int.pow_succ] at h1
  have ih:=vL_dgN n (v/65536) (by omega) (by generalize (65536:Int)^n=p at *;omega)
  rw [dgN,vL,ih]
  omega
theorem dgN_get:∀ n (v:Int) i,i<n→0≤gI (dgN n v) i∧gI (dgN n v) i<65536
 | 0,_,_,h=>by omega
 | n+1,v,0,_=>by rw [dgN,gI_zero];omega
 | n+1,v,i+1,h=>by rw [dgN,zbn];exact dgN_get n _ i (by omega)
theorem vL_split (l:List Int) (a:Int):vL (l++[a])=vL l+a*65536^l.length:=by
 induction l with
 | nil=>simp [vL]
 | cons b l ih =>
  rw [List.cons_append,vL,vL,ih,List.length_cons,Int.pow_succ,← Int.mul_assoc,Int.mul_comm _ (65536:Int)]
  generalize a*65536^l.length=q
  omega
theorem split16 {l:List Int} (h:l.length=16):∃ m,l=m++[gI l 15]∧m.length=15∧∀ i,i<15→gI m i=gI l i:=by
 refine ⟨l.take 15,?_,by rw [List.length_take,h];rfl,fun i hi=>?_⟩
 ·have e:=List.take_append_drop 15 l
  have d:l.drop 15=[gI l 15]:=by
   rw [List.drop_eq_getElem_cons (by omega),List.drop_eq_nil_of_le (by omega)]
   simp [gI,List.getD,List.getElem?_eq_getElem (show 15<l.length by omega)]
  rw [← d];exact e.symm
 ·unfold gI
  simp [List.getD,hi]
abbrev P255:Int:=57896044618658097711785492504343953926634992332820282019728792003956564819968
abbrev P240:Int:=1766847064778384329583297500742918515827483896875618958121606201292619776
abbrev pP:Int:=57896044618658097711785492504343953926634992332820282019728792003956564819949
theorem top_digit {l:List Int} (h:l.length=16) (hp:∀ i,i<15→0≤gI l i∧gI l i<65536):gI l 15=vL l/P240:=by
 obtain ⟨m,e,hm,hg⟩:=split16 h
 have hv:=vL_split m (gI l 15)
 rw [← e,hm] at hv
 have hb:=vL_bound m (fun i hi=>by rw [hg i (by omega)];exact hp i (by omega))
 rw [hm] at hb
 have e15:(65536:Int)^15=P240:=by decide
 rw [e15] at hv hb
 generalize gI l 15=t at *
 generalize vL l=v at *
 generalize vL m=u at *
 unfold P240 at *
 omega
def foldL (l:List Int):List Int:=(l.set 0 (gI l 0+19*(gI l 15/32768))).set 15 (gI l 15 % 32768)
theorem foldL_len (l:List Int):(foldL l).length=l.length:=by simp [foldL]
theorem foldL_get {l:List Int} (h:l.length=16) (j:Nat):gI (foldL l) j=if j=15 then gI l 15 % 32768 else if j=0 then gI l 0+19*(gI l 15/32768) else gI l j:=by
 unfold foldL
 rw [gI_set _ _ _ _ (by simp;omega),gI_set _ _ _ _ (by omega)]
 by_cases h1:15=j
 ·subst h1;simp
 ·have h1':¬ j=15:=fun e=>h1 e.symm
  by_cases h2:0=j
  ·subst h2;simp
  ·have h2':¬ j=0:=fun e=>h2 e.symm
   simp only [h1,h1',h2,h2',if_false]
theorem foldL_val {l:List Int} (h:l.length=16):vL (foldL l)=vL l-gI l 15/32768*pP:=by
 unfold foldL
 rw [vL_set _ _ _ (by simp;omega),vL_set _ _ _ (by omega),gI_set _ _ _ _ (by omega),if_neg (by omega)]
 have e15:(65536:Int)^15=P240:=by decide
 rw [e15,Int.pow_zero]
 generalize gI l 15=t
 generalize gI l 0=z
 generalize vL l=v
 unfold P240 pP
 omega
def passL (l:List Int):List Int:=foldL (zau l 15)
def fV (v:Int):Int:=v % P255+19*(v/P255)
theorem pass_val {B:Int} {l:List Int} (hB:2≤B) (hb:Bd B l) (h:l.length=16):vL (passL l)=fV (vL l):=by
 have hc:=carry_st hB hb 15 (by omega)
 have hl:(zau l 15).length=16:=by rw [zaP,h]
 have ht:=top_digit hl hc.low
 have hv:=carryTo_val l 15 (by omega)
 unfold passL fV
 rw [foldL_val hl,ht,hv]
 generalize vL l=v
 unfold P240 pP P255
 omega
theorem pass_len {l:List Int} (h:l.length=16):(passL l).length=16:=by rw [passL,foldL_len,zaP,h]
theorem pass_bd {B:Int} {l:List Int} (hB:70368744177664=B) (hb:Bd B l) (h:l.length=16):Bd B (passL l):=by
 have hc:=carry_st (by omega) hb 15 (by omega)
 have hl:(zau l 15).length=16:=by rw [zaP,h]
 intro i
 rw [passL,foldL_get hl]
 by_cases h15:i=15
 ·rw [if_pos h15];omega
 ·rw [if_neg h15]
  by_cases h0:i=0
  ·rw [if_pos h0]
   have:=hc.at_
   have:=hc.low 0 (by omega)
   omega
  ·rw [if_neg h0]
   by_cases hi:i<15
   ·have:=hc.low i hi;omega
   ·rw [hc.high i (by omega)];exact hb i
def passN (l:List Int):Nat→List Int
 | 0=>l
 | k+1=>passL (passN l k)
theorem passN_ok {B:Int} {l:List Int} (hB:70368744177664=B) (hb:Bd B l) (h:l.length=16):∀ k,(passN l k).length=16∧Bd B (passN l k)
 | 0=>⟨h,hb⟩
 | k+1=>by
  have ih:=passN_ok hB hb h k
  exact ⟨pass_len ih.1,pass_bd hB ih.2 ih.1⟩
theorem passN_val {B:Int} {l:List Int} (hB:70368744177664=B) (hb:Bd B l) (h:l.length=16) (k:Nat):vL (passN l (k+1))=fV (vL (passN l k)):=by
 have ih:=passN_ok hB hb h k
 exact pass_val (by omega) ih.2 ih.1
theorem fV_four (v:Int) (h1:-(8*P255)≤v) (h2:v≤35184372088832*P255):0≤fV (fV (fV (fV v)))∧fV (fV (fV (fV v)))<P255∧fV (fV (fV (fV v))) % pP=v % pP:=by
 have a1:fV v % pP=v % pP∧-200≤fV v∧fV v≤P255+668503069687808:=by unfold fV pP P255 at *;omega
 generalize fV v=x at *
 have a2:fV x % pP=x % pP∧0≤fV x∧fV x<P255:=by unfold fV pP P255 at *;omega
 generalize fV x=y at *
 have a3:fV y=y:=by unfold fV pP P255 at *;omega
 rw [a3,a3]
 omega
def zaL:List Int:=[65517,65535,65535,65535,65535,65535,65535,65535,65535,65535,65535,65535,65535,65535,65535,32767]
theorem primeL_val:vL zaL=pP:=by decide
theorem primeL_pr:∀ i,i<16→0≤gI zaL i∧gI zaL i<65536:=by decide
def opTo (f:Nat→Int) (a:List Int) (k:Nat):List Int:=(List.range 16).map fun i=>if i<k then f i else gI a i
theorem opTo_len (f a k):(opTo f a k).length=16:=by simp [opTo]
theorem opTo_get (f:Nat→Int) (a:List Int) (k i:Nat) (h:i<16):gI (opTo f a k) i=if i<k then f i else gI a i:=by
 simp [opTo,gI,List.getD,h]
theorem list16 {l:List Int} (h:l.length=16):l=(List.range 16).map fun i=>gI l i:=by
 apply List.ext_getElem (by simp [h])
 intro i h1 h2
 simp [gI,List.getD,List.getElem?_eq_getElem h1]
theorem opTo_zero (f:Nat→Int) {a:List Int} (h:a.length=16):opTo f a 0=a:=by
 have e:=list16 h
 unfold opTo
 simp only [Nat.not_lt_zero,if_false]
 exact e.symm
theorem opTo_set (f:Nat→Int) (a:List Int) {k:Nat} (h:k<16):(opTo f a k).set k (f k)=opTo f a (k+1):=by
 apply List.ext_getElem (by simp [opTo])
 intro i h1 h2
 rw [List.getElem_set]
 by_cases e:k=i
 ·subst e;simp [opTo]
 ·rw [if_neg e]
  simp only [opTo,List.getElem_map,List.getElem_range]
  by_cases g:i<k
  ·rw [if_pos g,if_pos (by omega)]
  ·rw [if_neg g,if_neg (by omega)]
theorem opTo_end (f:Nat→Int) (a:List Int):opTo f a 16=(List.range 16).map f:=by
 unfold opTo
 apply List.map_congr_left
 intro i hi
 rw [if_pos (List.mem_range.1 hi)]
theorem vL_add (f g:Nat→Int):∀ l:List Nat,vL (l.map fun i=>f i+g i)=vL (l.map f)+vL (l.map g)
 | []=>rfl
 | a :: l=>by
  have ih:=vL_add f g l
  rw [List.map_cons,List.map_cons,List.map_cons,vL,vL,vL,ih];omega
theorem vL_mulc (c:Int) (f:Nat→Int):∀ l:List Nat,vL (l.map fun i=>c*f i)=c*vL (l.map f)
 | []=>by simp [vL]
 | a :: l=>by
  have ih:=vL_mulc c f l
  rw [List.map_cons,List.map_cons,vL,vL,ih,Int.mul_add,← Int.mul_assoc,← Int.mul_assoc,Int.mul_comm c 65536]
theorem vL16 {l:List Int} (h:l.length=16):vL ((List.range 16).map fun i=>gI l i)=vL l:=by rw [← list16 h]
theorem gI_range (f:Nat→Int) (i:Nat) (h:i<16):gI ((List.range 16).map f) i=f i:=by simp [gI,List.getD,h]
theorem gI_out {l:List Int} {i:Nat} (h:l.length≤i):gI l i=0:=by simp [gI,List.getD,List.getElem?_eq_none h]
def subL (a b:List Int):List Int:=(List.range 16).map fun i=>gI a i-gI b i
theorem subL_val {a b:List Int} (ha:a.length=16) (hb:b.length=16):vL (subL a b)=vL a-vL b:=by
 have h:=vL_add (fun i=>gI a i) (fun i=>(-1)*gI b i) (List.range 16)
 rw [vL_mulc,vL16 ha,vL16 hb] at h
 unfold subL
 rw [show (fun i=>gI a i-gI b i)=fun i=>gI a i+(-1)*gI b i from funext fun i=>by omega,h]
 omega
def fin4 (l:List Int):List Int:=zau (passN l 4) 15
def normL (l:List Int):List Int:=if vL (fin4 l)<pP then fin4 l else zau (subL (fin4 l) zaL) 15
theorem Bd.mono {B B':Int} {l:List Int} (h:Bd B l) (hB:B≤B'):Bd B' l:=fun i=>by have:=h i;omega
theorem carry_all {B:Int} {l:List Int} (hB:2≤B) (hb:Bd B l) (h:l.length=16) (h0:0≤vL l) (h1:vL l<2*P255):zau l 15=dgN 16 (vL l):=by
 have hc:=carry_st hB hb 15 (by omega)
 have hl:(zau l 15).length=16:=by rw [zaP,h]
 have ht:=top_digit hl hc.low
 have hv:=carryTo_val l 15 (by omega)
 have hd:=dg_unique (zau l 15) (fun i hi=>by
  rw [hl] at hi
  by_cases e:i<15
  ·exact hc.low i e
  ·have:i=15:=by omega
   subst this
   rw [ht,hv]
   generalize vL l=v at *
   unfold P240 P255 at *
   omega)
 rw [hl,hv] at hd
 exact hd
theorem fin4_val {B:Int} {l:List Int} (hB:70368744177664=B) (hb:Bd B l) (h:l.length=16):vL (passN l 4)=fV (fV (fV (fV (vL l)))):=by
 rw [passN_val hB hb h,passN_val hB hb h,passN_val hB hb h,passN_val hB hb h]
 rfl
theorem fin4_is {B:Int} {l:List Int} (hB:70368744177664=B) (hb:Bd B l) (h:l.length=16) (h1:-(8*P255)≤vL l) (h2:vL l≤35184372088832*P255) :
  ∃ v,fin4 l=dgN 16 v∧vL (fin4 l)=v∧0≤v∧v<P255∧v % pP=vL l % pP:=by
 have hv:=fin4_val hB hb h
 obtain ⟨a1,a2,a3⟩:=fV_four (vL l) h1 h2
 rw [← hv] at a1 a2 a3
 obtain ⟨hlen,hbd⟩:=passN_ok hB hb h 4
 have e:=carry_all (by omega) hbd hlen a1 (by unfold P255 at *;omega)
 have e2:=carryTo_val (passN l 4) 15 (by omega)
 exact ⟨_,e,e2,a1,a2,a3⟩
theorem norm_is {B:Int} {l:List Int} (hB:70368744177664=B) (hb:Bd B l) (h:l.length=16) (h1:-(8*P255)≤vL l) (h2:vL l≤35184372088832*P255):normL l=dgN 16 (vL l % pP):=by
 obtain ⟨v,e,ev,v0,vP,vm⟩:=fin4_is hB hb h h1 h2
 unfold normL
 rw [ev]
 by_cases hlt:v<pP
 ·have hx:vL l % pP=v:=by
   rw [← vm]
   exact Int.emod_eq_of_lt v0 hlt
  rw [if_pos hlt,e,hx]
 ·rw [if_neg hlt]
  have hl:(fin4 l).length=16:=by rw [e,zaD]
  have hs:vL (subL (fin4 l) zaL)=v-pP:=by rw [subL_val hl rfl,ev,primeL_val]
  have hbs:Bd 131072 (subL (fin4 l) zaL):=fun i=>by
   by_cases hi:i<16
   ·rw [subL,gI_range _ _ hi,e]
    have:=dgN_get 16 v i hi
    have hp:=primeL_pr i hi
    omega
   ·rw [gI_out (by simp [subL];omega)];omega
  rw [carry_all (B:=131072) (by omega) hbs (by simp [subL]) (by rw [hs];omega) (by rw [hs];unfold P255 pP at *;omega),hs]
  have hx:vL l % pP=v-pP:=by
   rw [← vm]
   unfold pP P255 at *
   omega
  rw [hx]
theorem below_at {a b:List Int} (ha:a.length=16) (hb:b.length=16) (pa:∀ i,i<16→0≤gI a i∧gI a i<65536) (pb:∀ i,i<16→0≤gI b i∧gI b i<65536) (k:Nat) (hk:k<16) (hs:∀ j,k<j→j<16→gI a j=gI b j) (hne:gI a k≠gI b k):(vL a<vL b)↔gI a k<gI b k:=by
 have key:∀ (n:Nat) (a b:List Int),a.length=n→b.length=n→(∀ i,i<n→0≤gI a i∧gI a i<65536)→(∀ i,i<n→0≤gI b i∧gI b i<65536)→∀ k,k<n→(∀ j,k<j→j<n→gI a j=gI b j)→gI a k≠gI b k→((vL a<vL b)↔gI a k<gI b k):=by
  intro n
  induction n with
  | zero=>intro a b _ _ _ _ k hk;omega
  | succ n ih =>
   intro a b ha hb pa pb k hk hs hne
   match a,b,ha,hb with
   | x :: a,y :: b,ha,hb =>
    have hx:=pa 0 (by omega)
    have hy:=pb 0 (by omega)
    rw [gI_zero] at hx hy
    rw [vL,vL]
    match k with
    | 0 =>
     have e:a=b:=by
      apply List.ext_getElem (by simp at ha hb;omega)
      intro i h1 h2
      have:=hs (i+1) (by omega) (by simp at ha;omega)
      rw [zbn,zbn] at this
      simpa [gI,List.getD,List.getElem?_eq_getElem h1,List.getElem?_eq_getElem h2] using this
     rw [e,gI_zero,gI_zero]
     omega
    | k+1 =>
     rw [zbn,zbn] at hne ⊢
     have h:=ih a b (by simpa using ha) (by simpa using hb) (fun i hi=>by have:=pa (i+1) (by omega);rwa [zbn] at this) (fun i hi=>by have:=pb (i+1) (by omega);rwa [zbn] at this) k (by omega)
      (fun j h1 h2=>by have:=hs (j+1) (by omega) (by omega);rwa [zbn,zbn] at this) hne
     have hne2:vL a≠vL b:=by
      intro e
      have h':=ih b a (by simpa using hb) (by simpa using ha) (fun i hi=>by have:=pb (i+1) (by omega);rwa [zbn] at this) (fun i hi=>by have:=pa (i+1) (by omega);rwa [zbn] at this) k (by omega)
       (fun j h1 h2=>by have:=hs (j+1) (by omega) (by omega);rw [zbn,zbn] at this;exact this.symm) (fun e=>hne e.symm)
      omega
     rw [← h]
     omega
 exact key 16 a b ha hb pa pb k hk hs hne
theorem below_same {a b:List Int} (ha:a.length=16) (hb:b.length=16) (hs:∀ j,j<16→gI a j=gI b j):a=b:=by
 rw [list16 ha,list16 hb]
 apply List.map_congr_left
 intro i hi
 exact hs i (List.mem_range.1 hi)
end Go.Proofs.YtkgodlcnoenmbaaGreat
namespace Go.Proofs.YtkgodlcnoenmbaaGreat
set_option linter.unusedVariables false
set_option maxRecDepth 100000
def leN:List UInt8→Nat
 | []=>0
 | a :: l=>a.toNat+256*leN l
def leB:Nat→Nat→List UInt8
 | 0,_=>[]
 | n+1,x=>UInt8.ofNat x :: leB n (x/256)
theorem zaq:∀ n x,(leB n x).length=n
 | 0,_=>rfl
 | n+1,x=>by rw [leB,List.length_cons,zaq n]
theorem leN_lt:∀ l:List UInt8,leN l<256^l.length
 | []=>by simp [leN]
 | a :: l=>by
  have ih:=leN_lt l
  have ha:=a.toNat_lt
  rw [leN,List.length_cons,Nat.pow_succ]
  generalize 256^l.length=p at *
  omega
theorem zbr:∀ n x,x<256^n→leN (leB n x)=x
 | 0,x,h=>by simp at h;subst h;rfl
 | n+1,x,h=>by
  have ih:=zbr n (x/256) (by rw [Nat.pow_succ] at h;generalize 256^n=p at *;omega)
  rw [leB,leN,ih]
  have:(UInt8.ofNat x).toNat=x % 256:=by simp
  omega
theorem leB_leN:∀ l:List UInt8,leB l.length (leN l)=l
 | []=>rfl
 | a :: l=>by
  have ha:=a.toNat_lt
  have e1:(a.toNat+256*leN l)/256=leN l:=by omega
  have e2:UInt8.ofNat (a.toNat+256*leN l)=a:=UInt8.toNat_inj.1 (by simp)
  rw [List.length_cons,leN,leB,e1,e2,leB_leN l]
theorem leN_inj {l m:List UInt8} (h:l.length=m.length) (e:leN l=leN m):l=m:=by
 rw [← leB_leN l,← leB_leN m,h,e]
theorem leB_inj {n x y:Nat} (hx:x<256^n) (hy:y<256^n) (h:leB n x=leB n y):x=y:=by
 rw [← zbr n x hx,← zbr n y hy,h]
theorem leB_get:∀ n x i,i<n→(leB n x).getD i 0=UInt8.ofNat (x/256^i)
 | 0,_,_,h=>by omega
 | n+1,x,0,_=>by simp [leB]
 | n+1,x,i+1,h=>by
  rw [leB,List.getD_cons_succ,leB_get n (x/256) i (by omega),Nat.div_div_eq_div_mul,Nat.pow_succ,Nat.mul_comm]
theorem leN_set:∀ (l:List UInt8) (i:Nat) (x:UInt8),i<l.length→leN (l.set i x)+(l.getD i 0).toNat*256^i=leN l+x.toNat*256^i
 | [],i,x,h=>by simp at h
 | a :: l,0,x,_=>by simp [leN];omega
 | a :: l,i+1,x,h=>by
  have ih:=leN_set l i x (by simpa using h)
  rw [List.set_cons_succ,leN,leN,List.getD_cons_succ,Nat.pow_succ,← Nat.mul_assoc,← Nat.mul_assoc]
  generalize (l.getD i 0).toNat*256^i=q at *
  generalize x.toNat*256^i=r at *
  omega
theorem leN_snoc (l:List UInt8) (a:UInt8):leN (l++[a])=leN l+a.toNat*256^l.length:=by
 induction l with
 | nil=>simp [leN]
 | cons b l ih =>
  rw [List.cons_append,leN,leN,ih,List.length_cons,Nat.pow_succ,← Nat.mul_assoc]
  generalize a.toNat*256^l.length=q
  omega
abbrev TT:Nat:=57896044618658097711785492504343953926634992332820282019728792003956564819968
abbrev PP:Nat:=57896044618658097711785492504343953926634992332820282019728792003956564819949
theorem two256:256^32=2*TT:=by decide
def topC (l:List UInt8):List UInt8:=l.set 31 (l.getD 31 0 &&& 127)
theorem topC_len (l:List UInt8):(topC l).length=l.length:=by simp [topC]
theorem top_split {l:List UInt8} (h:l.length=32):∃ r,r<256^31∧leN l=r+(l.getD 31 0).toNat*256^31:=by
 have e:l=l.take 31++[l.getD 31 0]:=by
  have e1:=List.take_append_drop 31 l
  have d:l.drop 31=[l.getD 31 0]:=by
   rw [List.drop_eq_getElem_cons (by omega),List.drop_eq_nil_of_le (by omega)]
   simp [List.getD,List.getElem?_eq_getElem (show 31<l.length by omega)]
  rw [← d];exact e1.symm
 have hl:(l.take 31).length=31:=by rw [List.length_take];omega
 refine ⟨leN (l.take 31),by have:=leN_lt (l.take 31);rwa [hl] at this,?_⟩
 have h2:=leN_snoc (l.take 31) (l.getD 31 0)
 rw [← e,hl] at h2
 exact h2
theorem u8_and127 (a:UInt8):(a &&& 127).toNat=a.toNat % 128:=by
 rw [UInt8.toNat_and,show (127:UInt8).toNat=2^7-1 by decide,Nat.and_two_pow_sub_one_eq_mod]
theorem P31:256^31=452312848583266388373324160190187140051835877600158453279131187530910662656:=by decide
theorem leN_topC {l:List UInt8} (h:l.length=32):leN (topC l)=leN l % TT:=by
 obtain ⟨r,hr,e⟩:=top_split h
 have hs:=leN_set l 31 (l.getD 31 0 &&& 127) (by omega)
 rw [u8_and127] at hs
 unfold topC
 have:=(l.getD 31 0).toNat_lt
 generalize (l.getD 31 0).toNat=a at *
 generalize leN (l.set 31 (l.getD 31 0 &&& 127))=v at *
 rw [e] at hs ⊢
 rw [P31] at *
 unfold TT
 omega
def feN (l:List UInt8):Nat:=leN l % TT % PP
def canN (l:List UInt8):Bool:=decide (leN l % TT<PP)
theorem feN_lt (l:List UInt8):feN l<PP:=Nat.mod_lt _ (by decide)
theorem PP_lt:PP<256^32:=by decide
theorem canN_iff {l:List UInt8} (h:l.length=32):decide (leB 32 (feN (topC l))=topC l)=canN l:=by
 have ht:=leN_topC h
 have hl:=topC_len l
 rw [h] at hl
 have hlt:leN l % TT<TT:=Nat.mod_lt _ (by decide)
 have hfe:feN (topC l)=leN l % TT % PP:=by unfold feN;rw [ht,Nat.mod_eq_of_lt hlt]
 rw [hfe]
 unfold canN
 by_cases hc:leN l % TT<PP
 ·rw [decide_eq_true hc,Nat.mod_eq_of_lt hc,← ht]
  have:=leB_leN (topC l)
  rw [hl] at this
  exact decide_eq_true this
 ·rw [decide_eq_false hc]
  apply decide_eq_false
  intro e
  apply hc
  have e2:leN (topC l)=leN l % TT % PP:=by rw [← e];exact zbr 32 _ (Nat.lt_trans (Nat.mod_lt _ (by decide)) PP_lt)
  rw [← ht,e2]
  exact Nat.mod_lt _ (by decide)
def pairL:List UInt8→List Int
 | a :: b :: l=>((a.toNat:Int)+256*(b.toNat:Int)) :: pairL l
 | _=>[]
theorem pairL_val:∀ l:List UInt8,l.length % 2=0→vL (pairL l)=(leN l:Int)
 | [],_=>rfl
 | [a],h=>by simp at h
 | a :: b :: l,h=>by
  have ih:=pairL_val l (by simp at h;omega)
  rw [pairL,vL,ih,leN,leN]
  omega
theorem pairL_len:∀ l:List UInt8,(pairL l).length=l.length/2
 | []=>rfl
 | [a]=>by simp [pairL]
 | a :: b :: l=>by rw [pairL,List.length_cons,pairL_len l,List.length_cons,List.length_cons];omega
theorem pairL_get:∀ (l:List UInt8) (i:Nat),2*i+1<l.length→gI (pairL l) i=((l.getD (2*i) 0).toNat:Int)+256*((l.getD (2*i+1) 0).toNat:Int)
 | [],i,h=>by simp at h
 | [a],i,h=>by simp at h
 | a :: b :: l,0,_=>by simp [pairL,gI_zero]
 | a :: b :: l,i+1,h=>by
  rw [pairL,zbn,pairL_get l i (by simp at h;omega),show 2*(i+1)=(2*i+1)+1 by omega]
  simp
def zbf (l:List UInt8) (i:Nat):Int:=((l.getD (2*i) 0).toNat:Int)+256*((l.getD (2*i+1) 0).toNat:Int)
theorem digitF_is {l:List UInt8} (h:l.length=32):(List.range 16).map (zbf l)=pairL l:=by
 have hl:=pairL_len l
 rw [h] at hl
 rw [list16 hl]
 apply List.map_congr_left
 intro i hi
 rw [pairL_get l i (by have:=List.mem_range.1 hi;omega)]
 rfl
theorem digitF_bd (l:List UInt8) (i:Nat):0≤zbf l i∧zbf l i<65536:=by
 unfold zbf
 have:=(l.getD (2*i) 0).toNat_lt
 have:=(l.getD (2*i+1) 0).toNat_lt
 omega
theorem digits_top {l:List UInt8} (h:l.length=32):vL (((List.range 16).map (zbf l)).set 15 (zbf l 15 % 32768))=((leN l % TT:Nat):Int):=by
 rw [vL_set _ _ _ (by simp),gI_range _ _ (by omega),digitF_is h,pairL_val l (by omega)]
 obtain ⟨r,hr,e⟩:=top_split h
 have e15:(65536:Int)^15=P240:=by decide
 rw [e15]
 have hd:=top_digit (l:=pairL l) (by rw [pairL_len,h]) (fun i hi=>by
  have:=digitF_bd l i
  rw [← digitF_is h,gI_range _ _ (by omega)];exact this)
 rw [← digitF_is h,gI_range _ _ (by omega),digitF_is h,pairL_val l (by omega)] at hd
 rw [hd]
 have hlt:=leN_lt l
 rw [h] at hlt
 generalize leN l=v at *
 unfold P240 TT at *
 omega
def zbI (x:Nat) (k:Nat):List UInt8:=(leB 32 x).take (2*k)++List.replicate (32-2*k) 0
theorem dgN_getN:∀ n (x i:Nat),i<n→gI (dgN n (x:Int)) i=((x/65536^i % 65536:Nat):Int)
 | 0,_,_,h=>by omega
 | n+1,x,0,_=>by rw [dgN,gI_zero];simp
 | n+1,x,i+1,h=>by
  rw [dgN,zbn,show (x:Int)/65536=((x/65536:Nat):Int) by omega,dgN_getN n (x/65536) i (by omega),Nat.div_div_eq_div_mul,Nat.pow_succ,Nat.mul_comm (65536^i)]
theorem byteTo_step (x k:Nat) (h:k<16):((zbI x k).set (2*k) (UInt8.ofNat (x/65536^k % 65536 % 256))).set (2*k+1) (UInt8.ofNat (x/65536^k % 65536/256))=zbI x (k+1):=by
 have hl:=zaq 32 x
 apply List.ext_getElem
 ·simp [zbI,hl];omega
 intro i h1 h2
 have hi:i<32:=by simp [zbI,hl] at h1;omega
 have g1:=leB_get 32 x i hi
 have gl:(leB 32 x)[i]'(by omega)=UInt8.ofNat (x/256^i):=by rw [← g1];simp [List.getD,List.getElem?_eq_getElem (show i<(leB 32 x).length by omega)]
 have p2:256^(2*k)=65536^k:=by rw [Nat.pow_mul]
 rw [List.getElem_set,List.getElem_set]
 by_cases a:2*k+1=i
 ·subst a
  rw [if_pos rfl]
  simp only [zbI]
  rw [List.getElem_append_left (by rw [List.length_take];omega),List.getElem_take,gl,Nat.pow_succ,p2,← Nat.div_div_eq_div_mul]
  generalize x/65536^k=y
  apply UInt8.toNat_inj.1
  simp
  omega
 ·rw [if_neg a]
  by_cases b:2*k=i
  ·subst b
   rw [if_pos rfl]
   simp only [zbI]
   rw [List.getElem_append_left (by rw [List.length_take];omega),List.getElem_take,gl,p2]
   generalize x/65536^k=y
   apply UInt8.toNat_inj.1
   simp
  ·rw [if_neg b]
   simp only [zbI]
   by_cases c:i<2*k
   ·rw [List.getElem_append_left (by rw [List.length_take];omega),List.getElem_append_left (by rw [List.length_take];omega),List.getElem_take,List.getElem_take]
   ·rw [List.getElem_append_right (by rw [List.length_take];omega),List.getElem_append_right (by rw [List.length_take];omega)]
    simp
theorem byteTo_zero (x:Nat):zbI x 0=List.replicate 32 0:=by simp [zbI]
theorem byteTo_end (x:Nat):zbI x 16=leB 32 x:=by
 have hl:=zaq 32 x
 unfold zbI
 rw [List.take_of_length_le (by omega)]
 simp
theorem byteTo_len (x:Nat) (k:Nat):(zbI x k).length=32:=by
 have hl:=zaq 32 x
 simp [zbI,hl];omega
end Go.Proofs.YtkgodlcnoenmbaaGreat
namespace Go.Proofs.YtkgodlcnoenmbaaGreat
open Go.RowKit
set_option linter.unusedVariables false
set_option maxRecDepth 100000
def tabI (l:List Int):Array Value:=(l.map fun x=>Value.int .i64 x).toArray
theorem zaB (l:List Int):(tabI l).size=l.length:=by simp [tabI]
theorem zas (l:List Int) (i:Nat) (h:i<l.length):(tabI l)[i]?=some (.int .i64 (gI l i)):=by
 simp [tabI,gI,List.getD,List.getElem?_eq_getElem h]
theorem zaR (l:List Int) (i:Nat) (x:Int):(tabI l).setIfInBounds i (.int .i64 x)=tabI (l.set i x):=by
 unfold tabI
 rw [List.map_set]
 simp
theorem zaZ (l:List Int):(tabI l).all (·.oneCell')=true:=by
 simp [tabI,Value.oneCell']
theorem zero_row (T:TypeId) (z:Array Value) (n:Nat) (h:(Tryz.prog.info? T).map (fun i=>(i.zero,i.size))=some (some (.agg z),n)) (u:World):(zeroValue T).run Tryz.prog u=.ok (.agg z) u:=by
 cases hi:Tryz.prog.info? T with
 | none=>rw [hi] at h;cases h
 | some i =>
  rw [hi] at h
  simp at h
  simp [zeroValue,typeInfo,hi,h.1]
theorem zab {B g:Nat} {a w:World} {cs:Array Value} (h:Below B a w) (hg:B≤g):Below B a (w.setRow g cs) :=
 ⟨h.os,h.tape,h.output,by have:=h.size;simpa using this,fun j hj=>by rw [setRow_other _ _ _ _ (by omega)];exact h.block j hj⟩
theorem zbA {w w1 w2:World} (h:Below w.heap.size w w1) (h2:Below w1.heap.size w1 w2):Below w.heap.size w w2:=h.trans (h2.mono h.size)
theorem zac {P:Program} {ρ:Operand→Value} {o:Oper} {w:World} {ty:TypeId} {x:Operand} (ho:o.op=.load ty x) {g:Nat} (hx:ρ x=.pointer (some ⟨g,0,none⟩)) {t:TypeId} {cs:Array Value} {fr:Nat × Nat} {d:TypeDesc} (hg:w.heap[g]?=some (.cells cs t fr))
  (hu:P.underlying ty=some d) (hd:(match d with | .struct _ | .array _ _=>true | _=>false)=true) (hi:(P.info? ty).map (·.size)=some cs.size) :
  (execOp ρ o).run P w=.ok (.value (.agg cs)) w:=by
 unfold execOp
 simp only [ho,hx,Instr.loadAt,Instr.sureAddr,Sem.run_bind,Sem.run_pure,Result.andThen_ok,run_loadVar_row w g t ty cs fr d hg hu hd hi]
theorem part_i {P:Program} (e:TypeId) (l:List Int) (i:Nat) (h:i<l.length) (ha:∀ w,(isAgg e).run P w=.ok false w) (u:World):(Go.part e (tabI l) i).run P u=.ok (.int .i64 (gI l i)) u:=by
 have hg:=zas l i h
 simp only [Go.part,Sem.run_bind,ha,Result.andThen_ok,Bool.false_eq_true,if_false]
 rw [hg]
 simp
theorem eqI_loop {P:Program} (e:TypeId) (l m:List Int) (hlm:l.length=m.length) (hu:P.underlying e=some (.int .i64)) (ha:∀ w,(isAgg e).run P w=.ok false w) (u:World):∀ (r:List Nat),(∀ i ∈ r,i<l.length) →
  (forIn r ((none:Option Bool),()) fun i __s=>do
   let a ← Go.part e (tabI l) (i*1)
   let b ← Go.part e (tabI m) (i*1)
   let c ← Op.equalIn 9999 e a b
   if (!c)=true then pure (ForInStep.done (some false,())) else pure (ForInStep.yield ((none:Option Bool),())):Sem (Option Bool × Unit)).run P u=.ok (if (r.all fun i=>decide (gI l i=gI m i))=true then none else some false,()) u
 | [],_=>by simp
 | i :: r,h=>by
  have h1:=part_i (P:=P) e l i (h i (by simp)) ha u
  have h1':=part_i (P:=P) e m i (by have:=h i (by simp);omega) ha u
  have h2:(Op.equalIn 9999 e (.int .i64 (gI l i)) (.int .i64 (gI m i))).run P u=.ok (decide (gI l i=gI m i)) u:=by
   rw [show (9999:Nat)=9998+1 from rfl,run_equalIn_int _ _ _ _ .i64 _ _ hu]
   simp
   rfl
  have ih:=eqI_loop e l m hlm hu ha u r (fun j hj=>h j (by simp [hj]))
  by_cases hd:gI l i=gI m i
  ·have hdt:decide (gI l i=gI m i)=true:=decide_eq_true hd
   simp only [List.forIn_cons,Sem.run_bind,Nat.mul_one,h1,h1',h2,Result.andThen_ok,hdt,Bool.not_true,Bool.false_eq_true,if_false,Sem.run_pure,List.all_cons,Bool.true_and] at ih ⊢
   exact ih
  ·have hdf:decide (gI l i=gI m i)=false:=decide_eq_false hd
   simp only [List.forIn_cons,Sem.run_bind,Nat.mul_one,h1,h1',h2,Result.andThen_ok,hdf,Bool.not_false,if_true,Sem.run_pure,List.all_cons,Bool.false_and,Bool.false_eq_true,if_false]
theorem all_same {l m:List Int} (h:l.length=m.length):((List.range' 0 l.length).all fun i=>decide (gI l i=gI m i))=decide (l=m):=by
 by_cases e:l=m
 ·subst e;simp
 ·rw [decide_eq_false e]
  cases hb:((List.range' 0 l.length).all fun i=>decide (gI l i=gI m i))
  ·rfl
  ·exfalso
   apply e
   apply List.ext_getElem h
   intro i h1 h2
   have:=List.all_eq_true.1 hb i (by rw [List.mem_range'_1];omega)
   simpa [gI,List.getD,List.getElem?_eq_getElem h1,List.getElem?_eq_getElem h2] using this
theorem eqI_run {P:Program} (T e:TypeId) (n:Nat) (l m:List Int) (hl:l.length=n) (hm:m.length=n) (ht:P.underlying T=some (.array n e)) (hu:P.underlying e=some (.int .i64))
  (ha:∀ w,(isAgg e).run P w=.ok false w) (hs:∀ w,(sizeOf e).run P w=.ok 1 w) (u:World):(binOp .eql T (.agg (tabI l)) (.agg (tabI m))).run P u=.ok (.bool (decide (l=m))) u:=by
 have h:(Op.equalIn 10000 T (.agg (tabI l)) (.agg (tabI m))).run P u=.ok (decide (l=m)) u:=by
  rw [show (10000:Nat)=9999+1 from rfl,Op.equalIn]
  simp only [Sem.run_bind,run_underlying ht,Result.andThen_ok,hs]
  simp only [Std.Legacy.Range.forIn_eq_forIn_range',Std.Legacy.Range.size,Nat.sub_zero,Nat.add_sub_cancel,Nat.div_one]
  have hr:∀ i ∈ List.range' 0 n,i<l.length:=fun i hi=>by
   rw [List.mem_range'_1] at hi;omega
  rw [eqI_loop e l m (by omega) hu ha u _ hr]
  have hq:=all_same (l:=l) (m:=m) (by omega)
  rw [hl] at hq
  rw [hq]
  by_cases e:l=m
  ·rw [decide_eq_true e];simp
  ·rw [decide_eq_false e];simp
 rw [run_eql_struct,h]
 simp
end Go.Proofs.YtkgodlcnoenmbaaGreat
namespace Go.Proofs.YtkgodlcnoenmbaaGreat
open Go.RowKit
set_option linter.unusedVariables false
set_option maxRecDepth 100000
def arrB (l:List UInt8):Array Value:=(l.map bval).toArray
theorem zar (l:List UInt8):(arrB l).size=l.length:=by simp [arrB]
theorem zaE (l:List UInt8) (i:Nat) (h:i<l.length):(arrB l)[i]?=some (.int .u8 ((l.getD i 0).toNat:Int)):=by
 simp [arrB,List.getD,List.getElem?_eq_getElem h,bval]
theorem za3 (l:List UInt8) (i:Nat) (x:UInt8):(arrB l).setIfInBounds i (.int .u8 (x.toNat:Int))=arrB (l.set i x):=by
 unfold arrB
 rw [List.map_set]
 simp [bval]
theorem zax (l:List UInt8):(arrB l).all (·.oneCell')=true:=by
 simp [arrB,Value.oneCell',bval]
theorem zbp (T:TypeId) (z:Array Value) (n:Nat) (h:(Tryz.prog.info? T).map (fun i=>(i.zero,i.size))=some (some (.agg z),n)) (u:World):(zeroValue T).run Tryz.prog u=.ok (.agg z) u:=by
 cases hi:Tryz.prog.info? T with
 | none=>rw [hi] at h;cases h
 | some i =>
  rw [hi] at h
  simp at h
  simp [zeroValue,typeInfo,hi,h.1]
theorem part_b {P:Program} (e:TypeId) (l:List UInt8) (i:Nat) (h:i<l.length) (ha:∀ w,(isAgg e).run P w=.ok false w) (u:World):(Go.part e (arrB l) i).run P u=.ok (.int .u8 ((l.getD i 0).toNat:Int)) u:=by
 have hg:=zaE l i h
 simp only [Go.part,Sem.run_bind,ha,Result.andThen_ok,Bool.false_eq_true,if_false]
 rw [hg]
 simp
theorem bs_lt {W:World} {A:Option Addr} {l:List UInt8} (h:Bs W A l) (hl:0<l.length) {k:Nat} (hk:At A k):k<W.heap.size:=by
 obtain ⟨b,o,rfl,hc⟩:=h hl
 obtain ⟨a,e,rfl⟩:=hk
 injection e with e
 subst e
 exact World.block_lt_of_cell? W _ (hc 0 hl)
theorem za2 {P:Program} {ρ:Operand→Value} {o:Oper} {w:World} {op:BinOp} {T T':TypeId} {x y:Operand} {cs ds:Array Value} {r:Value} (ho:o.op=.binOp op T x y T') (hx:ρ x=.agg cs) (hy:ρ y=.agg ds) (hm:P.eqGuardType P.depth T=false)
  (he:(binOp op T (.agg cs) (.agg ds)).run P w=.ok r w):(execOp ρ o).run P w=.ok (.value r) w:=by
 unfold execOp
 simp only [ho,hx,hy,Sem.run_bind,run_eqGuard_agg w op T x y cs ds hm,Result.andThen_ok,he,Sem.run_pure]
theorem za4 {W:World} {g:Nat} {cs:Array Value} {t:TypeId} (h:W.heap[g]?=some (.cells cs t (0,0))) (k:Nat):W.frozen? ⟨g,k,none⟩=false:=by simp [World.frozen?,h]
theorem neqB_run {P:Program} (T:TypeId) (xs ys:Array Value) (b:Bool) (u:World) (h:(binOp .eql T (.agg xs) (.agg ys)).run P u=.ok (.bool b) u):(binOp .neq T (.agg xs) (.agg ys)).run P u=.ok (.bool (!b)) u:=by
 rw [run_eql_struct] at h
 rw [run_neq_struct]
 cases hq:(Op.equalIn 10000 T (.agg xs) (.agg ys)).run P u with
 | ok c w' =>
  rw [hq] at h
  simp [Result.andThen] at h
  obtain ⟨h1,h2⟩:=h
  subst h1
  subst h2
  simp [Result.andThen]
 | halt x w'=>rw [hq] at h;cases h
theorem eqB2_loop {P:Program} (e:TypeId) (l m:List UInt8) (hlm:l.length=m.length) (hu:P.underlying e=some (.int .u8)) (ha:∀ w,(isAgg e).run P w=.ok false w) (u:World):∀ (r:List Nat),(∀ i ∈ r,i<l.length) →
  (forIn r ((none:Option Bool),()) fun i __s=>do
   let a ← Go.part e (arrB l) (i*1)
   let b ← Go.part e (arrB m) (i*1)
   let c ← Op.equalIn 9999 e a b
   if (!c)=true then pure (ForInStep.done (some false,())) else pure (ForInStep.yield ((none:Option Bool),())):Sem (Option Bool × Unit)).run P u=.ok (if (r.all fun i=>decide (l.getD i 0=m.getD i 0))=true then none else some false,()) u
 | [],_=>by simp
 | i :: r,h=>by
  have h1:=part_b (P:=P) e l i (h i (by simp)) ha u
  have h1':=part_b (P:=P) e m i (by have:=h i (by simp);omega) ha u
  have h2:(Op.equalIn 9999 e (.int .u8 ((l.getD i 0).toNat:Int)) (.int .u8 ((m.getD i 0).toNat:Int))).run P u=.ok (decide (l.getD i 0=m.getD i 0)) u:=by
   rw [show (9999:Nat)=9998+1 from rfl,run_equalIn_int _ _ _ _ .u8 _ _ hu]
   generalize l.getD i 0=a
   generalize m.getD i 0=b
   by_cases hq:a=b
   ·rw [hq];simp
   ·rw [decide_eq_false hq]
    have:¬ a.toNat=b.toNat:=fun e=>hq (UInt8.toNat_inj.1 e)
    congr 1
    simp;omega
  have ih:=eqB2_loop e l m hlm hu ha u r (fun j hj=>h j (by simp [hj]))
  by_cases hd:l.getD i 0=m.getD i 0
  ·have hdt:decide (l.getD i 0=m.getD i 0)=true:=decide_eq_true hd
   simp only [List.forIn_cons,Sem.run_bind,Nat.mul_one,h1,h1',h2,Result.andThen_ok,hdt,Bool.not_true,Bool.false_eq_true,if_false,Sem.run_pure,List.all_cons,Bool.true_and] at ih ⊢
   exact ih
  ·have hdf:decide (l.getD i 0=m.getD i 0)=false:=decide_eq_false hd
   simp only [List.forIn_cons,Sem.run_bind,Nat.mul_one,h1,h1',h2,Result.andThen_ok,hdf,Bool.not_false,if_true,Sem.run_pure,List.all_cons,Bool.false_and,Bool.false_eq_true,if_false]
theorem allB_same {l m:List UInt8} (h:l.length=m.length):((List.range' 0 l.length).all fun i=>decide (l.getD i 0=m.getD i 0))=decide (l=m):=by
 by_cases e:l=m
 ·subst e;simp
 ·rw [decide_eq_false e]
  cases hb:((List.range' 0 l.length).all fun i=>decide (l.getD i 0=m.getD i 0))
  ·rfl
  ·exfalso
   apply e
   apply List.ext_getElem h
   intro i h1 h2
   have:=List.all_eq_true.1 hb i (by rw [List.mem_range'_1];omega)
   simpa [List.getD,List.getElem?_eq_getElem h1,List.getElem?_eq_getElem h2] using this
theorem eqB_any {P:Program} (T e:TypeId) (n:Nat) (l m:List UInt8) (hl:l.length=n) (hm:m.length=n) (ht:P.underlying T=some (.array n e)) (hu:P.underlying e=some (.int .u8))
  (ha:∀ w,(isAgg e).run P w=.ok false w) (hs:∀ w,(sizeOf e).run P w=.ok 1 w) (u:World):(Op.equalIn 10000 T (.agg (arrB l)) (.agg (arrB m))).run P u=.ok (decide (l=m)) u:=by
 rw [show (10000:Nat)=9999+1 from rfl,Op.equalIn]
 simp only [Sem.run_bind,run_underlying ht,Result.andThen_ok,hs]
 simp only [Std.Legacy.Range.forIn_eq_forIn_range',Std.Legacy.Range.size,Nat.sub_zero,Nat.add_sub_cancel,Nat.div_one]
 have hr:∀ i ∈ List.range' 0 n,i<l.length:=fun i hi=>by
  rw [List.mem_range'_1] at hi;omega
 rw [eqB2_loop e l m (by omega) hu ha u _ hr]
 have hq:=allB_same (l:=l) (m:=m) (by omega)
 rw [hl] at hq
 rw [hq]
 by_cases e:l=m
 ·rw [decide_eq_true e];simp
 ·rw [decide_eq_false e];simp
theorem eqB_run {P:Program} (T e:TypeId) (n:Nat) (l m:List UInt8) (hl:l.length=n) (hm:m.length=n) (ht:P.underlying T=some (.array n e)) (hu:P.underlying e=some (.int .u8))
  (ha:∀ w,(isAgg e).run P w=.ok false w) (hs:∀ w,(sizeOf e).run P w=.ok 1 w) (u:World):(binOp .eql T (.agg (arrB l)) (.agg (arrB m))).run P u=.ok (.bool (decide (l=m))) u:=by
 rw [run_eql_struct,eqB_any T e n l m hl hm ht hu ha hs u]
 simp
end Go.Proofs.YtkgodlcnoenmbaaGreat
namespace Go.Proofs.YtkgodlcnoenmbaaGreat
set_option linter.unusedVariables false
set_option maxRecDepth 100000
theorem fr_negmul {x y:Nat} (hx:x<PP) (hy:y<PP):(((PP-x) % PP)*((PP-y) % PP)) % PP=(x*y) % PP:=by
 have h0:0<PP:=by decide
 generalize PP=p at *
 rw [Nat.mul_mod_mod,Nat.mod_mul_mod]
 have e:(((p-x)*(p-y):Nat):Int)=(x*y:Nat)+(p:Int)*((p:Int)-x-y):=by
  rw [Int.natCast_mul,Int.natCast_sub (by omega),Int.natCast_sub (by omega),Int.natCast_mul]
  grind
 have e2:(((p-x)*(p-y):Nat):Int) % p=((x*y:Nat):Int) % p:=by rw [e,Int.add_mul_emod_self_left]
 rw [← Int.natCast_emod,← Int.natCast_emod] at e2
 exact Int.ofNat.inj e2
def edgeB (n:Nat):List UInt8:=((List.replicate 32 (255:UInt8)).set 0 (UInt8.ofNat n)).set 31 127
theorem edge_len (n:Nat):(edgeB n).length=32:=by simp [edgeB]
theorem edge_val {n:Nat} (h:n<256):leN (edgeB n)=TT-256+n:=by
 have h1:=leN_set (List.replicate 32 (255:UInt8)) 0 (UInt8.ofNat n) (by simp)
 have h2:=leN_set ((List.replicate 32 (255:UInt8)).set 0 (UInt8.ofNat n)) 31 127 (by simp)
 have e1:leN (List.replicate 32 (255:UInt8))=2*TT-1:=by decide +kernel
 have e2:(UInt8.ofNat n).toNat=n:=by simp;omega
 have e3:((List.replicate 32 (255:UInt8)).getD 0 0).toNat=255:=by decide
 have e4:(((List.replicate 32 (255:UInt8)).set 0 (UInt8.ofNat n)).getD 31 0).toNat=255:=by simp [List.getD]
 rw [e1,e2,e3,Nat.pow_zero] at h1
 rw [e4,P31,show (127:UInt8).toNat=127 from rfl] at h2
 unfold edgeB
 unfold TT at *
 omega
end Go.Proofs.YtkgodlcnoenmbaaGreat
namespace Go.Proofs.YtkgodlcnoenmbaaGreat
set_option linter.unusedVariables false
set_option maxRecDepth 100000
open Pm Fl
def pwN (x n:Nat):Nat:=((F25519.c x)^n).val
theorem pwN_lt (x n:Nat):pwN x n<PP:=((F25519.c x)^n).isLt
theorem c_pwN (x n:Nat):F25519.c (pwN x n)=F25519.c x^n:=F25519.c_of _
theorem zbH {a b:Nat} (ha:a<PP) (hb:b<PP) (h:F25519.c a=F25519.c b):a=b:=F25519.c_inj ha hb h
theorem c_modP (a:Nat):F25519.c (a % PP)=F25519.c a:=F25519.c_mod a
theorem zap (a:Nat):a % PP<PP:=Nat.mod_lt _ (by decide)
theorem zaF (a b:Nat):F25519.c ((a*b) % PP)=F25519.c a*F25519.c b:=by rw [c_modP,F25519.c_mul]
theorem c_negP {a:Nat} (h:a<PP):F25519.c ((PP-a) % PP)=-F25519.c a:=by
 rw [c_modP]
 have e:=F25519.c_sub (a:=0) (b:=a) (Nat.le_of_lt h)
 rw [Nat.zero_add] at e
 rw [show PP-a=F25519.P-a from rfl,e]
 have z:F25519.c 0=0:=rfl
 rw [z]
 grind
theorem c_one:F25519.c 1=1:=rfl
theorem c_zero:F25519.c 0=0:=rfl
theorem c_eq_zeroP {a:Nat} (h:a<PP):F25519.c a=0↔a=0 :=
 ⟨fun e=>zbH h (by decide) (by rw [e];rfl),fun e=>by rw [e];rfl⟩
theorem pwN_zero (x:Nat):pwN x 0=1:=zbH (pwN_lt _ _) (by decide) (by rw [c_pwN,pow_zero_,c_one])
theorem pwN_add (x m n:Nat):(pwN x m*pwN x n) % PP=pwN x (m+n):=zbH (zap _) (pwN_lt _ _) (by rw [zaF,c_pwN,c_pwN,c_pwN,F25519.pw_add])
theorem pwN_succ (x n:Nat):(pwN x n*x) % PP=pwN x (n+1):=zbH (zap _) (pwN_lt _ _) (by rw [zaF,c_pwN,c_pwN,pow_succ_])
theorem pwN_pw (x m n:Nat):pwN (pwN x m) n=pwN x (m*n):=zbH (pwN_lt _ _) (pwN_lt _ _) (by rw [c_pwN,c_pwN,c_pwN,F25519.pw_mul])
def invN (x:Nat):Nat:=pwN x (PP-2)
theorem invN_lt (x:Nat):invN x<PP:=pwN_lt _ _
theorem c_invN {x:Nat} (h:x<PP):F25519.c (invN x)=inv (F25519.c x):=by
 unfold invN inv
 rw [c_pwN]
 by_cases h0:F25519.c x=0
 ·rw [if_pos h0,h0,show PP-2=(PP-3)+1 from rfl,pow_succ_,mul_zero_]
 ·rw [if_neg h0];rfl
theorem zaY {x:Nat} (h:x<PP) (h0:x≠0):(x*invN x) % PP=1:=zbH (zap _) (by decide) (by
 rw [zaF,c_invN h,mul_inv F25519.prP (fun e=>h0 ((c_eq_zeroP h).1 e)),c_one])
abbrev KP:Nat:=7237005577332262213973186563042994240829374041602535252466099000494570602493
theorem two_quarter:F25519.c (pwN 2 (2*KP+1))=F25519.iV:=by
 rw [c_pwN]
 apply Fin.ext
 rw [F25519.val_pm _ _ 255 (by decide +kernel)]
 decide +kernel
def fixN (z:Nat):Nat:=if z % 2=1 then (PP-z) % PP else z
theorem fixN_lt {z:Nat} (h:z<PP):fixN z<PP:=by unfold fixN;split;exact zap _;exact h
theorem fixN_even {z:Nat} (h:z<PP):fixN z % 2=0:=by
 unfold fixN
 have hp:PP % 2=1:=by decide
 by_cases h1:z % 2=1
 ·rw [if_pos h1,show (PP-z) % PP=PP-z from Nat.mod_eq_of_lt (by omega)];omega
 ·rw [if_neg h1];omega
theorem fixN_sq {z:Nat} (h:z<PP):(fixN z*fixN z) % PP=(z*z) % PP:=by
 unfold fixN
 by_cases h1:z % 2=1
 ·rw [if_pos h1];exact fr_negmul h h
 ·rw [if_neg h1]
def rtG (a b x:Nat):Option Nat:=if (a*a) % PP=x then some (fixN a) else if (b*b) % PP=x then some (fixN b) else none
def rtN (x:Nat):Option Nat:=rtG (pwN x (KP+1)) ((pwN x (KP+1)*pwN 2 (2*KP+1)) % PP) x
theorem rtG_some {a b x z:Nat} (ha:a<PP) (hb:b<PP) (h:rtG a b x=some z):z<PP∧(z*z) % PP=x∧z % 2=0:=by
 unfold rtG at h
 split at h
 ·rename_i e
  injection h with h
  subst h
  exact ⟨fixN_lt ha,by rw [fixN_sq ha];exact e,fixN_even ha⟩
 ·split at h
  ·rename_i e
   injection h with h
   subst h
   exact ⟨fixN_lt hb,by rw [fixN_sq hb];exact e,fixN_even hb⟩
  ·cases h
theorem rtG_none {a b x:Nat} (h:rtG a b x=none):¬ (a*a) % PP=x∧¬ (b*b) % PP=x:=by
 unfold rtG at h
 split at h
 ·cases h
 ·rename_i e1
  split at h
  ·cases h
  ·rename_i e2
   exact ⟨e1,e2⟩
theorem rtG_A {a b x:Nat} (h:(a*a) % PP=x):(rtG a b x).getD 0=fixN a∧(rtG a b x).isSome=true:=by
 unfold rtG
 rw [if_pos h]
 exact ⟨rfl,rfl⟩
theorem rtG_B {a b x:Nat} (h:¬ (a*a) % PP=x) (h2:(b*b) % PP=x):(rtG a b x).getD 0=fixN b∧(rtG a b x).isSome=true:=by
 unfold rtG
 rw [if_neg h,if_pos h2]
 exact ⟨rfl,rfl⟩
theorem rtG_C {a b x:Nat} (h:¬ (a*a) % PP=x) (h2:¬ (b*b) % PP=x):(rtG a b x).getD 0=0∧(rtG a b x).isSome=false:=by
 unfold rtG
 rw [if_neg h,if_neg h2]
 exact ⟨rfl,rfl⟩
def rootN (x:Nat):Nat:=(rtN x).getD 0
def isN (x:Nat):Bool:=(rtN x).isSome
theorem rt_some {x z:Nat} (h:rtN x=some z):z<PP∧(z*z) % PP=x∧z % 2=0:=rtG_some (pwN_lt _ _) (zap _) h
theorem rt_none {x:Nat} (hx:x<PP) (h:rtN x=none):¬ F25519.IsSq (F25519.c x):=fun hs=>by
 obtain ⟨e1,e2⟩:=rtG_none h
 have k:=F25519.root_alg hs
 rw [show F25519.K+1=KP+1 from rfl,← c_pwN x (KP+1),← two_quarter,← zaF,← zaF,← zaF] at k
 rcases k with k | k
 ·exact e1 (zbH (zap _) hx k)
 ·exact e2 (zbH (zap _) hx k)
theorem rootN_eq (x:Nat):rootN x=(rtG (pwN x (KP+1)) ((pwN x (KP+1)*pwN 2 (2*KP+1)) % PP) x).getD 0:=by unfold rootN rtN;rfl
theorem isN_eq (x:Nat):isN x=(rtG (pwN x (KP+1)) ((pwN x (KP+1)*pwN 2 (2*KP+1)) % PP) x).isSome:=by unfold isN rtN;rfl
theorem rootN_lt (x:Nat):rootN x<PP:=by
 unfold rootN
 cases h:rtN x with
 | none=>decide
 | some z=>exact (rt_some h).1
theorem rootN_even (x:Nat):rootN x % 2=0:=by
 unfold rootN
 cases h:rtN x with
 | none=>rfl
 | some z=>exact (rt_some h).2.2
theorem rootN_sq {x:Nat} (h:isN x=true):(rootN x*rootN x) % PP=x:=by
 unfold rootN
 unfold isN at h
 cases e:rtN x with
 | none=>rw [e] at h;cases h
 | some z=>exact (rt_some e).2.1
theorem rootN_none {x:Nat} (h:isN x=false):rootN x=0:=by
 unfold rootN
 unfold isN at h
 cases e:rtN x with
 | none=>rfl
 | some z=>rw [e] at h;cases h
theorem isN_iff {x:Nat} (hx:x<PP):isN x=true↔F25519.IsSq (F25519.c x):=by
 constructor
 ·intro h
  have e:=congrArg F25519.c (rootN_sq h)
  rw [zaF] at e
  exact ⟨_,e⟩
 ·intro h
  unfold isN
  cases e:rtN x with
  | none=>exact absurd h (rt_none hx e)
  | some z=>rfl
theorem isN_sq (y:Nat):isN ((y*y) % PP)=true:=(isN_iff (zap _)).2 ⟨F25519.c y,(zaF _ _).symm⟩
theorem root_is {x y:Nat} (hy:y<PP) (he:y % 2=0) (h:(y*y) % PP=x):rootN x=y∧isN x=true:=by
 have hi:isN x=true:=by rw [← h];exact isN_sq y
 refine ⟨?_,hi⟩
 have e:=rootN_sq hi
 rw [← h] at e
 have e2:=congrArg F25519.c e
 rw [zaF,zaF] at e2
 apply zbH (rootN_lt _) hy
 refine F25519.even_root (by rw [← h];exact e2) ?_ ?_
 ·rw [F25519.c_val,show F25519.P=PP from rfl,Nat.mod_eq_of_lt (rootN_lt _)];exact rootN_even _
 ·rw [F25519.c_val,show F25519.P=PP from rfl,Nat.mod_eq_of_lt hy];exact he
def ratN (u v:Nat):Nat:=if v=0 then 0 else rootN ((u*invN v) % PP)
def fineN (u v:Nat):Bool:=if v=0 then decide (u=0) else isN ((u*invN v) % PP)
theorem ratN_lt (u v:Nat):ratN u v<PP:=by unfold ratN;split;decide;exact rootN_lt _
theorem ratN_even (u v:Nat):ratN u v % 2=0:=by unfold ratN;split;rfl;exact rootN_even _
end Go.Proofs.YtkgodlcnoenmbaaGreat
namespace Go.Proofs.YtkgodlcnoenmbaaGreat
set_option linter.unusedVariables false
set_option maxRecDepth 100000
theorem leN_byte:∀ (l:List UInt8) (j:Nat),leN l/256^j % 256=(l.getD j 0).toNat
 | [],j=>by simp [leN]
 | a :: l,0=>by have:=a.toNat_lt;rw [leN,Nat.pow_zero,Nat.div_one,List.getD_cons_zero];omega
 | a :: l,j+1=>by
  have ih:=leN_byte l j
  have ha:=a.toNat_lt
  have e:(a.toNat+256*leN l)/256=leN l:=by omega
  rw [leN,List.getD_cons_succ,← ih,Nat.pow_succ,Nat.mul_comm (256^j) 256,← Nat.div_div_eq_div_mul,e]
theorem small_bit (y r:Nat) (hr:r<8):y/2^r % 2=y % 256/2^r % 2:=by
 have h:r=0∨r=1∨r=2∨r=3∨r=4∨r=5∨r=6∨r=7:=by omega
 rcases h with rfl | rfl | rfl | rfl | rfl | rfl | rfl | rfl <;> omega
theorem leN_bit (l:List UInt8) (i:Nat):(l.getD (i/8) 0).toNat/2^(i % 8) % 2=leN l/2^i % 2:=by
 have e:2^i=256^(i/8)*2^(i % 8):=by
  rw [show (256:Nat)=2^8 from rfl,← Nat.pow_mul,← Nat.pow_add]
  congr 1
  omega
 rw [e,← Nat.div_div_eq_div_mul,small_bit (leN l/256^(i/8)) (i % 8) (Nat.mod_lt _ (by omega)),leN_byte]
theorem pow_step (x E k:Nat) (hk:k<256) :
  (if E/2^(255-k) % 2=1 then ((pwN x (E/2^(256-k))*pwN x (E/2^(256-k))) % PP*x) % PP else (pwN x (E/2^(256-k))*pwN x (E/2^(256-k))) % PP)=pwN x (E/2^(256-(k+1))):=by
 rw [pwN_add]
 have e:E/2^(256-k)=E/2^(255-k)/2:=by
  rw [Nat.div_div_eq_div_mul,← Nat.pow_succ,show (255-k).succ=256-k by omega]
 rw [e,show 256-(k+1)=255-k by omega]
 generalize E/2^(255-k)=y
 split
 ·rename_i h
  rw [pwN_succ]
  congr 1
  omega
 ·rename_i h
  congr 1
  omega
def halfB9 (E k:Nat):List UInt8:=(leB 32 (E/2)).take k++(leB 32 E).drop k
theorem halfB9_len (E:Nat) {k:Nat} (h:k≤32):(halfB9 E k).length=32:=by
 have a:=zaq 32 (E/2)
 have b:=zaq 32 E
 simp [halfB9,a,b]
 omega
theorem halfB9_zero (E:Nat):halfB9 E 0=leB 32 E:=rfl
theorem halfB9_end (E:Nat):halfB9 E 32=leB 32 (E/2):=by
 have a:=zaq 32 (E/2)
 have b:=zaq 32 E
 unfold halfB9
 rw [List.take_of_length_le (by omega),List.drop_eq_nil_of_le (by omega),List.append_nil]
theorem halfB9_get (E:Nat) {k j:Nat} (h:k≤j) (hj:j<32) (hk:k≤32):(halfB9 E k).getD j 0=UInt8.ofNat (E/256^j):=by
 have a:=zaq 32 (E/2)
 have b:=zaq 32 E
 have g:=leB_get 32 E j hj
 unfold halfB9
 rw [← g]
 simp only [List.getD]
 rw [List.getElem?_append_right (by rw [List.length_take];omega),List.getElem?_drop,List.length_take,a]
 congr 2
 omega
theorem halfB9_set (E:Nat) {k:Nat} (h:k<32):(halfB9 E k).set k (UInt8.ofNat (E/2/256^k))=halfB9 E (k+1):=by
 have a:=zaq 32 (E/2)
 have b:=zaq 32 E
 have g:=leB_get 32 (E/2) k h
 unfold halfB9
 rw [List.set_append,if_neg (by rw [List.length_take];omega),List.length_take,a,Nat.min_eq_left (by omega),Nat.sub_self,List.drop_eq_getElem_cons (by omega),List.set_cons_zero,List.take_succ_eq_append_getElem (by omega),List.append_assoc]
 congr 1
 rw [List.singleton_append]
 congr 1
 rw [← g]
 simp [List.getD,List.getElem?_eq_getElem (show k<(leB 32 (E/2)).length by omega)]
theorem half_byte (E k:Nat):E/2/256^k % 256=E/256^k % 256/2+E/256^(k+1) % 2*128:=by
 rw [Nat.pow_succ,← Nat.div_div_eq_div_mul,Nat.div_div_eq_div_mul,Nat.mul_comm 2,← Nat.div_div_eq_div_mul]
 generalize E/256^k=y
 omega
theorem half_top {E:Nat} (h:E<256^32):E/256^(31+1) % 2=0:=by
 rw [Nat.div_eq_of_lt h]
theorem ones_low {less:Nat} (h:less≤237):((List.replicate 32 (255:UInt8)).set 31 127).set 0 (UInt8.ofNat (237-less))=leB 32 (PP-less):=by
 have e:edgeB (237-less)=leB 32 (PP-less):=by
  have hv:=edge_val (n:=237-less) (by omega)
  have:=leB_leN (edgeB (237-less))
  rw [edge_len,hv] at this
  rw [← this]
  congr 1
  unfold TT PP
  omega
 rw [← e]
 unfold edgeB
 rw [List.set_comm _ _ (by omega)]
theorem ones13:(PP-1)/2^3=KP:=by decide
theorem ones12:(PP-1)/2^2=2*KP+1:=by decide
theorem ones20:(PP-2)/2^0=PP-2:=by decide
theorem K_inc:(leB 32 KP).set 0 254=leB 32 (KP+1):=by decide +kernel
theorem K_low:((leB 32 KP).getD 0 0).toNat=253:=by decide +kernel
theorem rootA {x:Nat} (h:(pwN x (KP+1)*pwN x (KP+1)) % PP=x):rootN x=fixN (pwN x (KP+1))∧isN x=true:=by
 rw [rootN_eq,isN_eq];exact rtG_A h
theorem rootB {x:Nat} (h:¬ (pwN x (KP+1)*pwN x (KP+1)) % PP=x) (h2:((pwN x (KP+1)*pwN 2 (2*KP+1)) % PP*((pwN x (KP+1)*pwN 2 (2*KP+1)) % PP)) % PP=x):rootN x=fixN ((pwN x (KP+1)*pwN 2 (2*KP+1)) % PP)∧isN x=true:=by
 rw [rootN_eq,isN_eq];exact rtG_B h h2
theorem rootC {x:Nat} (h:¬ (pwN x (KP+1)*pwN x (KP+1)) % PP=x) (h2:¬ ((pwN x (KP+1)*pwN 2 (2*KP+1)) % PP*((pwN x (KP+1)*pwN 2 (2*KP+1)) % PP)) % PP=x):rootN x=0∧isN x=false:=by
 rw [rootN_eq,isN_eq];exact rtG_C h h2
theorem fix_odd {z:Nat} (h:z % 2=1):fixN z=(PP-z) % PP:=if_pos h
theorem fix_even {z:Nat} (h:¬ z % 2=1):fixN z=z:=if_neg h
end Go.Proofs.YtkgodlcnoenmbaaGreat
namespace Go.Proofs.YtkgodlcnoenmbaaGreat
set_option linter.unusedVariables false
set_option maxRecDepth 100000
open Pm Fl
theorem pwN_oneE {x:Nat} (hx:x<PP):pwN x 1=x:=by
 have h:=pwN_succ x 0
 rw [pwN_zero,Nat.one_mul,Nat.mod_eq_of_lt hx] at h
 exact h.symm
theorem pwN_sq {x:Nat} (hx:x<PP):(x*x) % PP=pwN x 2:=by
 have h:=pwN_succ x 1
 rwa [pwN_oneE hx] at h
theorem pwN_cube {x:Nat} (hx:x<PP):((x*x) % PP*x) % PP=pwN x 3:=by
 rw [pwN_sq hx,pwN_succ]
theorem pwN_nilP {n:Nat} (h:0<n):pwN 0 n=0:=by
 obtain ⟨m,rfl⟩:∃ m,n=m+1:=⟨n-1,by omega⟩
 rw [← pwN_succ,Nat.mul_zero,Nat.zero_mod]
theorem pow2_next (x k:Nat):(pwN x (2^k)*pwN x (2^k)) % PP=pwN x (2^(k+1)):=by
 rw [pwN_add,Nat.pow_succ];congr 1;omega
theorem ones_even (x m:Nat):(pwN (pwN x (2^m-1)) (2^m)*pwN x (2^m-1)) % PP=pwN x (2^(2*m)-1):=by
 have h1:1≤2^m:=Nat.one_le_two_pow
 rw [pwN_pw,pwN_add]
 congr 1
 rw [Nat.two_mul,Nat.pow_add,Nat.sub_mul]
 have h2:2^m≤2^m*2^m:=Nat.le_mul_of_pos_left _ h1
 omega
theorem ones_odd {x:Nat} (m:Nat):((pwN x (2^(2*m)-1)*pwN x (2^(2*m)-1)) % PP*x) % PP=pwN x (2^(2*m+1)-1):=by
 have h1:1≤2^(2*m):=Nat.one_le_two_pow
 rw [pwN_add,pwN_succ]
 congr 1
 rw [Nat.pow_succ]
 omega
theorem ones_eighth:(2^250-1)*2^2+1=KP:=by decide +kernel
theorem inv_eighth:KP*2^3+3=PP-2:=by decide +kernel
theorem K_pos:0<KP:=by decide +kernel
theorem eighth_is {x:Nat}:(pwN (pwN x (2^250-1)) (2^2)*x) % PP=pwN x KP:=by
 rw [← ones_eighth]
 generalize 2^250-1=e
 rw [pwN_pw,pwN_succ]
theorem invert_is {x:Nat} (hx:x<PP):(pwN (pwN x KP) (2^3)*(((x*x) % PP*x) % PP)) % PP=invN x:=by
 unfold invN
 rw [pwN_cube hx,pwN_pw,pwN_add,← inv_eighth]
def qI:Nat:=19681161376707505956807079304988542015446066515923890162744021073123829784752
theorem qI_c:F25519.c qI=F25519.iV:=by apply Fin.ext;decide +kernel
theorem ratio_is {u v z:Nat} (hu:u<PP) (hv:v<PP) (hz:z<PP) (h:(v*((z*z) % PP)) % PP=u) (h0:v=0→z=0):ratN u v=fixN z∧fineN u v=true:=by
 unfold ratN fineN
 by_cases e:v=0
 ·have hz0:=h0 e
  subst e hz0
  rw [Nat.zero_mul,Nat.zero_mod] at h
  rw [if_pos rfl,if_pos rfl,← h]
  exact ⟨rfl,rfl⟩
 ·rw [if_neg e,if_neg e]
  have i:=congrArg F25519.c (zaY hv e)
  rw [zaF,c_one] at i
  have hzz:(fixN z*fixN z) % PP=(u*invN v) % PP:=by
   rw [fixN_sq hz]
   apply zbH (zap _) (zap _)
   rw [zaF u,← h,zaF v,c_modP (z*z)]
   generalize F25519.c (z*z)=q at *
   generalize F25519.c (invN v)=y at *
   generalize F25519.c v=t at *
   rw [mul_assoc_,mul_comm_ q y,← mul_assoc_,i,one_mul_]
  exact root_is (fixN_lt hz) (fixN_even hz) hzz
theorem ratio_alg {N:Nat} [NeZero N] (k:Nat) (a b:Fin N):b*((a*(a*b)^k)*(a*(a*b)^k))=a*(a*b)^(2*k+1):=by
 rw [F25519.pw_add,F25519.pw_one,Nat.two_mul,F25519.pw_add]
 generalize (a*b)^k=q
 grind
theorem times_negone {N:Nat} [NeZero N] (q:Fin N):q * -1=-q:=by grind
theorem ratio_found {u v:Nat}:F25519.c ((v*(((u*pwN ((u*v) % PP) KP) % PP*((u*pwN ((u*v) % PP) KP) % PP)) % PP)) % PP)=F25519.c u*(F25519.c u*F25519.c v)^(2*KP+1):=by
 rw [zaF,zaF,zaF,c_pwN,zaF,ratio_alg]
theorem ratio_zero {u:Nat}:(u*pwN ((u*0) % PP) KP) % PP=0:=by
 rw [Nat.mul_zero,Nat.zero_mod,pwN_nilP K_pos,Nat.mul_zero,Nat.zero_mod]
theorem ratio_none {u v f:Nat} (hu:u<PP) (hv:v<PP) (hf:F25519.c f=F25519.c u*(F25519.c u*F25519.c v)^(2*KP+1)) (hl:f<PP) (h1:¬ f=u) (h2:¬ f=(PP-u) % PP):ratN u v=0∧fineN u v=false:=by
 have hu0:u≠0:=by
  rintro rfl
  apply h1
  apply zbH hl hu
  rw [hf,c_zero,zero_mul_]
 have key:¬ (v≠0∧F25519.IsSq (F25519.c ((u*invN v) % PP))):=by
  rintro ⟨hv0,s,hs⟩
  have i:=congrArg F25519.c (zaY hv hv0)
  rw [zaF,c_one] at i
  rw [zaF] at hs
  have eu:F25519.c u=F25519.c v*(s*s):=by
   rw [hs]
   generalize F25519.c (invN v)=y at *
   generalize F25519.c v=t at *
   generalize F25519.c u=q at *
   rw [mul_comm_ q y,← mul_assoc_,i,one_mul_]
  have ew:F25519.c u*F25519.c v=(F25519.c v*s)*(F25519.c v*s):=by
   rw [eu]
   generalize F25519.c v=t
   grind
  have hcu:F25519.c u≠0:=fun e=>hu0 ((c_eq_zeroP hu).1 e)
  have ht:F25519.c v*s≠0:=by
   intro e
   rw [e,mul_zero_] at ew
   rcases F25519.mul_zero_or ew with g | g
   ·exact hcu g
   ·exact hv0 ((c_eq_zeroP hv).1 g)
  have hh:=F25519.half_sq ht
  rw [show 4*F25519.K+2=2*KP+1+(2*KP+1) by show 4*KP+2=_;omega,F25519.pw_add,← F25519.mul_pw,← ew] at hh
  rcases hh with g | g
  ·rw [g,mul_one_] at hf
   exact h1 (zbH hl hu hf)
  ·rw [g] at hf
   apply h2
   apply zbH hl (zap _)
   rw [hf,c_negP hu,times_negone]
 unfold ratN fineN
 by_cases e:v=0
 ·rw [if_pos e,if_pos e]
  exact ⟨rfl,decide_eq_false hu0⟩
 ·rw [if_neg e,if_neg e]
  have hno:isN ((u*invN v) % PP)=false:=by
   cases hh:isN ((u*invN v) % PP) with
   | false=>rfl
   | true=>exact absurd ⟨e,(isN_iff (zap _)).1 hh⟩ key
  exact ⟨rootN_none hno,hno⟩
theorem ratio_second {u v r:Nat} (hu:u<PP) (h:(v*((r*r) % PP)) % PP=(PP-u) % PP):(v*(((r*qI) % PP*((r*qI) % PP)) % PP)) % PP=u:=by
 apply zbH (zap _) hu
 have e:=congrArg F25519.c h
 rw [zaF,zaF,c_negP hu] at e
 rw [zaF,zaF,zaF,qI_c]
 have i:=F25519.i_sq
 generalize F25519.iV=j at *
 generalize F25519.c r=q at *
 generalize F25519.c v=t at *
 have e2:t*(q*j*(q*j))=(t*(q*q))*(j*j):=by grind
 rw [e2,e,i]
 grind
end Go.Proofs.YtkgodlcnoenmbaaGreat
namespace Go.Proofs.YtkgodlcnoenmbaaGreat
open Go.RowKit
set_option linter.unusedVariables false
set_option maxRecDepth 100000
set_option maxHeartbeats 6400000
open Pm Fl
abbrev PtD:Type:=Ed.Pt F25519.dV
abbrev padd (p q:PtD):PtD:=Ed.Pt.add F25519.full p q
abbrev pzero:PtD:=Ed.Pt.zero F25519.dV
theorem c_plus (a b:Nat):F25519.c ((a+b) % PP)=F25519.c a+F25519.c b:=by rw [c_modP,F25519.c_add]
theorem c_less {a b:Nat} (h:b<PP):F25519.c ((a+(PP-b)) % PP)=F25519.c a-F25519.c b:=by rw [c_modP];exact F25519.c_sub (Nat.le_of_lt h)
structure Co (X Y Z T:Nat) (p:PtD):Prop where
 x:X<PP
 y:Y<PP
 z:Z<PP
 t:T<PP
 rep:Ed.Rep (F25519.c X) (F25519.c Y) (F25519.c Z) (F25519.c T) p
def edG (v:Nat):Nat:=((PP-121665) % PP*v) % PP
theorem edG_lt (v:Nat):edG v<PP:=by unfold edG;exact zap _
theorem edG_is (v:Nat):((PP-121665) % PP*v) % PP=edG v:=rfl
def edN:Nat:=edG (invN 121666)
theorem edN_is:((PP-121665) % PP*invN 121666) % PP=edN:=edG_is (invN 121666)
theorem edN_lt:edN<PP:=edG_lt (invN 121666)
theorem c_num1:F25519.c 121665=(121665:Fin F25519.P):=Fin.ext (by decide +kernel)
theorem c_num2:F25519.c 121666=(121666:Fin F25519.P):=Fin.ext (by decide +kernel)
theorem num1_lt:121665<PP:=by decide
theorem num2_lt:121666<PP:=by decide
theorem num2_ne:(121666:Fin F25519.P)≠0:=by
 intro h
 have:=congrArg Fin.val h
 revert this
 decide +kernel
theorem ed_alg {a b d:Fin F25519.P} (h:b*d=-a) (hb:b≠0):-a*inv b=d:=by
 rw [← h,mul_comm_ b,mul_assoc_,mul_inv F25519.prP hb,mul_one_]
theorem c_edG (v:Nat):F25519.c (edG v)=-F25519.c 121665*F25519.c v:=by
 unfold edG
 rw [zaF,c_negP num1_lt]
theorem c_edN:F25519.c edN=F25519.dV:=by
 have h:=c_edG (invN 121666)
 rw [c_invN num2_lt,c_num1,c_num2,ed_alg F25519.d_def num2_ne] at h
 exact h
theorem c_edN2:F25519.c ((edN+edN) % PP)=F25519.dV+F25519.dV:=by rw [c_plus,c_edN]
theorem co_add {X1 Y1 Z1 T1 X2 Y2 Z2 T2 A B C D E F G H:Nat} {p q:PtD} (h1:Co X1 Y1 Z1 T1 p) (h2:Co X2 Y2 Z2 T2 q)
  (hA:((Y1+(PP-X1)) % PP*((Y2+(PP-X2)) % PP)) % PP=A) (hB:((Y1+X1) % PP*((Y2+X2) % PP)) % PP=B)
  (hC:((T1*T2) % PP*((edN+edN) % PP)) % PP=C) (hD:((Z1+Z1) % PP*Z2) % PP=D)
  (hE:(B+(PP-A)) % PP=E) (hF:(D+(PP-C)) % PP=F) (hG:(D+C) % PP=G) (hH:(B+A) % PP=H) :
  Co ((E*F) % PP) ((G*H) % PP) ((F*G) % PP) ((E*H) % PP) (padd p q):=by
 refine ⟨zap _,zap _,zap _,zap _,?_⟩
 have r:=Ed.rep_add F25519.full h1.rep h2.rep
 have lA:A<PP:=by rw [← hA];exact zap _
 have lC:C<PP:=by rw [← hC];exact zap _
 have eA:F25519.c A=(F25519.c Y1-F25519.c X1)*(F25519.c Y2-F25519.c X2):=by rw [← hA,zaF,c_less h1.x,c_less h2.x]
 have eB:F25519.c B=(F25519.c Y1+F25519.c X1)*(F25519.c Y2+F25519.c X2):=by rw [← hB,zaF,c_plus,c_plus]
 have eC:F25519.c C=F25519.c T1*F25519.c T2*(F25519.dV+F25519.dV):=by rw [← hC,zaF,zaF,c_edN2]
 have eD:F25519.c D=(F25519.c Z1+F25519.c Z1)*F25519.c Z2:=by rw [← hD,zaF,c_plus]
 rw [zaF,zaF,zaF,zaF,← hE,← hF,← hG,← hH,c_less lA,c_less lC,c_plus,c_plus,eA,eB,eC,eD]
 exact r
theorem co_neg {X Y Z T:Nat} {p:PtD} (h:Co X Y Z T p):Co ((PP-X) % PP) Y Z ((PP-T) % PP) p.neg :=
 ⟨zap _,h.y,h.z,zap _,by rw [c_negP h.x,c_negP h.t];exact Ed.rep_neg h.rep⟩
theorem co_zero:Co 0 1 1 0 pzero:=⟨by decide,by decide,by decide,by decide,Ed.rep_zero F25519.prP _⟩
theorem co_of {x y:Nat} {p:PtD} (hx:p.x.val=x) (hy:p.y.val=y):Co x y 1 ((x*y) % PP) p:=by
 have ex:F25519.c x=p.x:=by rw [← hx];exact F25519.c_of _
 have ey:F25519.c y=p.y:=by rw [← hy];exact F25519.c_of _
 refine ⟨by rw [← hx];exact p.x.isLt,by rw [← hy];exact p.y.isLt,by decide,zap _,?_⟩
 rw [zaF,ex,ey,c_one]
 exact Ed.rep_one F25519.full p
theorem co_enc {X Y Z T:Nat} {p:PtD} (h:Co X Y Z T p):(X*invN Z) % PP=p.x.val∧(Y*invN Z) % PP=p.y.val:=by
 obtain ⟨hx,hy⟩:=Ed.rep_inv F25519.full h.rep
 constructor
 ·exact zbH (zap _) p.x.isLt (by rw [zaF,c_invN h.z,F25519.c_of];exact hx)
 ·exact zbH (zap _) p.y.isLt (by rw [zaF,c_invN h.z,F25519.c_of];exact hy)
theorem enc_num (p:PtD):F25519.encN p=p.y.val+p.x.val % 2*TT:=rfl
theorem encN_lt (p:PtD):F25519.encN p<256^32:=by
 have h:=F25519.enc_lt p
 rw [two256]
 exact h
open Pm Fl
def upN (y:Nat):Nat:=((y*y) % PP+(PP-1)) % PP
def dnN (y:Nat):Nat:=((edN*((y*y) % PP)) % PP+1) % PP
theorem dnN_lt (y:Nat):dnN y<PP:=by unfold dnN;exact zap _
theorem c_upN (y:Nat):F25519.c (upN y)=F25519.c y*F25519.c y-1:=by
 unfold upN
 rw [c_less (by decide),zaF,c_one]
theorem c_dnN (y:Nat):F25519.c (dnN y)=F25519.dV*(F25519.c y*F25519.c y)+1:=by
 unfold dnN
 rw [c_plus,zaF,zaF,c_edN,c_one]
theorem dnN_ne (y:Nat):dnN y≠0:=fun h=>by
 have e:=c_dnN y
 rw [h,c_zero] at e
 exact Ed.den_ne F25519.full _ e.symm
theorem fine_is (y:Nat):fineN (upN y) (dnN y)=isN ((upN y*invN (dnN y)) % PP):=by unfold fineN;rw [if_neg (dnN_ne y)]
theorem rat_is (y:Nat):ratN (upN y) (dnN y)=rootN ((upN y*invN (dnN y)) % PP):=by unfold ratN;rw [if_neg (dnN_ne y)]
theorem c_quot (y:Nat):F25519.c ((upN y*invN (dnN y)) % PP)=(F25519.c y*F25519.c y-1)*inv (F25519.dV*(F25519.c y*F25519.c y)+1):=by
 rw [zaF,c_invN (dnN_lt y),c_upN,c_dnN]
theorem point_of {y:Nat} (hy:y<PP) (h:fineN (upN y) (dnN y)=true) (s:Bool) (hs:ratN (upN y) (dnN y)=0→s=false) :
  ∃ p:PtD,F25519.encN p=y+(if s then 1 else 0)*TT∧p.y.val=y∧p.x.val=(if s then (PP-ratN (upN y) (dnN y)) % PP else ratN (upN y) (dnN y)):=by
 have hl:=ratN_lt (upN y) (dnN y)
 have he:=ratN_even (upN y) (dnN y)
 have hq:F25519.c (ratN (upN y) (dnN y))*F25519.c (ratN (upN y) (dnN y))=(F25519.c y*F25519.c y-1)*inv (F25519.dV*(F25519.c y*F25519.c y)+1):=by
  rw [fine_is] at h
  rw [← c_quot,rat_is,← zaF,rootN_sq h]
 obtain ⟨r,hr⟩:∃ r,ratN (upN y) (dnN y)=r:=⟨_,rfl⟩
 rw [hr] at hl he hq hs ⊢
 have hv:(F25519.c r).val=r:=by rw [F25519.c_val];exact Nat.mod_eq_of_lt hl
 have hyv:(F25519.c y).val=y:=by rw [F25519.c_val];exact Nat.mod_eq_of_lt hy
 have ho:=(Ed.x_of_y F25519.full).2 hq
 refine ⟨F25519.ptOf (F25519.c r) (F25519.c y) ho s,?_,hyv,?_⟩
 ·have:=F25519.enc_ptOf ho (by rw [hv];exact he) s (fun g=>hs ((c_eq_zeroP hl).1 g))
  rw [this,hyv]
 ·cases s with
  | false=>exact hv
  | true =>
   show (-F25519.c r).val=(PP-r) % PP
   have e:F25519.c ((PP-r) % PP)=-F25519.c r:=c_negP hl
   rw [← e,F25519.c_val]
   exact Nat.mod_eq_of_lt (zap _)
theorem point_only {y:Nat} (hy:y<TT) (s:Bool) (p:PtD) (h:F25519.encN p=y+(if s then 1 else 0)*TT) :
  y<PP∧fineN (upN y) (dnN y)=true∧(ratN (upN y) (dnN y)=0→s=false):=by
 obtain ⟨hP,r,he,hr,hs⟩:=(F25519.enc_iff y s hy).1 ⟨p,h⟩
 have hq:(r.val*r.val) % PP=(upN y*invN (dnN y)) % PP:=zbH (zap _) (zap _) (by rw [zaF,F25519.c_of,c_quot];exact hr)
 obtain ⟨e1,e2⟩:=root_is r.isLt he hq
 refine ⟨hP,by rw [fine_is];exact e2,fun g=>hs ?_⟩
 rw [rat_is,e1] at g
 exact Fin.ext g
open Pm Fl
def decS (l:List UInt8):Bool:=decide (127<(l.getD 31 0).toNat)
theorem sign_split {l:List UInt8} (h:l.length=32):leN l=leN l % TT+(if decS l then 1 else 0)*TT:=by
 obtain ⟨r,hr,e⟩:=top_split h
 have hb:=(l.getD 31 0).toNat_lt
 rw [P31] at hr e
 unfold decS
 by_cases g:127<(l.getD 31 0).toNat
 ·rw [decide_eq_true g,if_pos rfl];unfold TT at *;omega
 ·rw [decide_eq_false g,if_neg (by decide)];unfold TT at *;omega
theorem feN_can {l:List UInt8} (h:canN l=true):feN l=leN l % TT:=by
 unfold canN at h
 unfold feN
 exact Nat.mod_eq_of_lt (of_decide_eq_true h)
theorem enc_set {y:Nat} (h:y<TT):(leB 32 y).set 31 ((leB 32 y).getD 31 0+128)=leB 32 (y+TT):=by
 have hlen:=zaq 32 y
 have h2:=two256
 apply leN_inj (by rw [List.length_set,zaq,zaq])
 have hs:=leN_set (leB 32 y) 31 ((leB 32 y).getD 31 0+128) (by rw [hlen];omega)
 have hg:=leB_get 32 y 31 (by omega)
 have hd:y/256^31<128:=by rw [P31];unfold TT at h;omega
 have ht:((leB 32 y).getD 31 0).toNat=y/256^31:=by rw [hg];simp;omega
 have hx:((leB 32 y).getD 31 0+128).toNat=y/256^31+128:=by rw [UInt8.toNat_add,ht];simp;omega
 rw [hx,ht,zbr 32 y (by omega)] at hs
 rw [zbr 32 (y+TT) (by omega)]
 rw [P31] at hs
 unfold TT
 omega
theorem enc_bytes (p:PtD):leB 32 (F25519.encN p)=if p.x.val % 2=1 then (leB 32 p.y.val).set 31 ((leB 32 p.y.val).getD 31 0+128) else leB 32 p.y.val:=by
 have hy:p.y.val<TT:=Nat.lt_trans p.y.isLt F25519.P_lt
 rw [enc_num]
 by_cases g:p.x.val % 2=1
 ·rw [if_pos g,g,enc_set hy,Nat.one_mul]
 ·rw [if_neg g,show p.x.val % 2=0 by omega,Nat.zero_mul,Nat.add_zero]
theorem encB_iff (p q:PtD):leB 32 (F25519.encN p)=leB 32 (F25519.encN q)↔p=q:=by
 constructor
 ·intro h;exact F25519.encN_inj (leB_inj (encN_lt p) (encN_lt q) h)
 ·rintro rfl;rfl
theorem dec_some {l:List UInt8} (hl:l.length=32) (hc:canN l=true) (hf:fineN (upN (feN l)) (dnN (feN l))=true) (hs:ratN (upN (feN l)) (dnN (feN l))=0→decS l=false) :
  ∃ p:PtD,leB 32 (F25519.encN p)=l∧p.y.val=feN l∧p.x.val=(if decS l then (PP-ratN (upN (feN l)) (dnN (feN l))) % PP else ratN (upN (feN l)) (dnN (feN l))):=by
 obtain ⟨p,h1,h2,h3⟩:=point_of (feN_lt l) hf (decS l) hs
 refine ⟨p,?_,h2,h3⟩
 rw [h1,feN_can hc,← sign_split hl,← hl]
 exact leB_leN l
theorem dec_only {l:List UInt8} (hl:l.length=32) (p:PtD) (h:leB 32 (F25519.encN p)=l) :
  canN l=true∧fineN (upN (feN l)) (dnN (feN l))=true∧(ratN (upN (feN l)) (dnN (feN l))=0→decS l=false):=by
 have e:F25519.encN p=leN l:=by rw [← h,zbr 32 _ (encN_lt p)]
 rw [sign_split hl] at e
 obtain ⟨a,b,c⟩:=point_only (Nat.mod_lt _ (by decide)) (decS l) p e
 have hc:canN l=true:=by unfold canN;exact decide_eq_true a
 rw [feN_can hc]
 exact ⟨hc,b,c⟩
open Pm Fl
theorem alg_q {a b d:Fin F25519.P} (h:b*d=a) (hb:b≠0):a*inv b=d:=by
 rw [← h,mul_comm_ b,mul_assoc_,mul_inv F25519.prP hb,mul_one_]
theorem n5_lt:5<PP:=by decide
theorem c_n4:F25519.c 4=(4:Fin F25519.P):=Fin.ext (by decide +kernel)
theorem c_n5:F25519.c 5=(5:Fin F25519.P):=Fin.ext (by decide +kernel)
theorem n5_ne:(5:Fin F25519.P)≠0:=by
 intro h
 have:=congrArg Fin.val h
 revert this
 decide +kernel
def byG (v:Nat):Nat:=(4*v) % PP
theorem byG_is (v:Nat):(4*v) % PP=byG v:=rfl
theorem c_byG (v:Nat):F25519.c (byG v)=F25519.c 4*F25519.c v:=by unfold byG;rw [zaF]
theorem byG_lt (v:Nat):byG v<PP:=by unfold byG;exact zap _
theorem bY_lt:F25519.bY<PP:=by decide +kernel
theorem bX_lt:F25519.bX<PP:=by decide +kernel
theorem base_yv:F25519.base.y.val=F25519.bY:=by
 show (F25519.c F25519.bY).val=F25519.bY
 rw [F25519.c_val];exact Nat.mod_eq_of_lt bY_lt
theorem base_xv:F25519.base.x.val=F25519.bX:=by
 show (F25519.c F25519.bX).val=F25519.bX
 rw [F25519.c_val];exact Nat.mod_eq_of_lt bX_lt
theorem base_y_is:byG (invN 5)=F25519.bY:=by
 apply zbH (byG_lt _) bY_lt
 rw [c_byG,c_invN n5_lt,c_n4,c_n5]
 exact alg_q F25519.base_y n5_ne
theorem root_of (p:PtD) (he:p.x.val % 2=0):fineN (upN p.y.val) (dnN p.y.val)=true∧ratN (upN p.y.val) (dnN p.y.val)=p.x.val:=by
 have ho:=(Ed.x_of_y F25519.full).1 p.on
 have hq:(p.x.val*p.x.val) % PP=(upN p.y.val*invN (dnN p.y.val)) % PP:=zbH (zap _) (zap _) (by
  rw [zaF,F25519.c_of,c_quot,F25519.c_of];exact ho)
 obtain ⟨e1,e2⟩:=root_is p.x.isLt he hq
 rw [fine_is,rat_is]
 exact ⟨e2,e1⟩
theorem base_root:fineN (upN F25519.bY) (dnN F25519.bY)=true∧ratN (upN F25519.bY) (dnN F25519.bY)=F25519.bX:=by
 have h:=root_of F25519.base (by rw [base_xv,← base_xv];exact F25519.base_even)
 rwa [base_yv,base_xv] at h
theorem base_co:Co F25519.bX F25519.bY 1 ((F25519.bX*F25519.bY) % PP) F25519.base:=co_of base_xv base_yv
open Pm Fl
def decF (l:List UInt8):Bool:=canN l&&(fineN (upN (feN l)) (dnN (feN l))&&!(decide (ratN (upN (feN l)) (dnN (feN l))=0)&&decS l))
def decX (l:List UInt8):Nat:=if decS l then (PP-ratN (upN (feN l)) (dnN (feN l))) % PP else ratN (upN (feN l)) (dnN (feN l))
theorem decF_parts {l:List UInt8} (h:decF l=true):canN l=true∧fineN (upN (feN l)) (dnN (feN l))=true∧(ratN (upN (feN l)) (dnN (feN l))=0→decS l=false):=by
 unfold decF at h
 rw [Bool.and_eq_true,Bool.and_eq_true] at h
 refine ⟨h.1,h.2.1,fun e=>?_⟩
 have k:=h.2.2
 rw [decide_eq_true e,Bool.true_and] at k
 cases hs:decS l
 ·rfl
 ·rw [hs] at k;cases k
theorem decF_of {l:List UInt8} (hc:canN l=true) (hf:fineN (upN (feN l)) (dnN (feN l))=true) (hs:ratN (upN (feN l)) (dnN (feN l))=0→decS l=false):decF l=true:=by
 unfold decF
 rw [hc,hf,Bool.true_and,Bool.true_and]
 by_cases e:ratN (upN (feN l)) (dnN (feN l))=0
 ·rw [hs e,Bool.and_false];rfl
 ·rw [decide_eq_false e];rfl
theorem decF_can {l:List UInt8} (h:canN l=false):decF l=false:=by unfold decF;rw [h];rfl
theorem decF_fine {l:List UInt8} (h:fineN (upN (feN l)) (dnN (feN l))=false):decF l=false:=by unfold decF;rw [h,Bool.false_and,Bool.and_false]
theorem decF_sign {l:List UInt8} (h:ratN (upN (feN l)) (dnN (feN l))=0) (hs:decS l=true):decF l=false:=by
 unfold decF;rw [decide_eq_true h,hs,Bool.true_and];simp
theorem dec_on {l:List UInt8} (h:decF l=true):Ed.On F25519.dV (F25519.c (decX l)) (F25519.c (feN l)):=by
 obtain ⟨hc,hf,hs⟩:=decF_parts h
 obtain ⟨p,h1,h2,h3⟩:=point_of (feN_lt l) hf (decS l) hs
 have ex:F25519.c (decX l)=p.x:=by unfold decX;rw [← h3];exact F25519.c_of _
 have ey:F25519.c (feN l)=p.y:=by rw [← h2];exact F25519.c_of _
 rw [ex,ey]
 exact p.on
def decP (l:List UInt8):PtD:=if h:decF l=true then ⟨F25519.c (decX l),F25519.c (feN l),dec_on h⟩ else pzero
theorem decP_no {l:List UInt8} (h:decF l=false):decP l=pzero:=by unfold decP;rw [dif_neg (by rw [h];decide)]
theorem decX_lt (l:List UInt8):decX l<PP:=by unfold decX;split;exact zap _;exact ratN_lt _ _
theorem c_valP {a:Nat} (h:a<PP):(F25519.c a).val=a:=by rw [F25519.c_val];exact Nat.mod_eq_of_lt h
theorem decP_xy {l:List UInt8} (h:decF l=true):(decP l).x.val=decX l∧(decP l).y.val=feN l:=by
 unfold decP
 rw [dif_pos h]
 exact ⟨c_valP (decX_lt l),c_valP (feN_lt l)⟩
theorem decP_of {l:List UInt8} (h:decF l=true) {p:PtD} (hx:p.x.val=decX l) (hy:p.y.val=feN l):decP l=p:=by
 obtain ⟨a,b⟩:=decP_xy h
 exact Ed.Pt.ext_ (Fin.ext (by rw [a,hx])) (Fin.ext (by rw [b,hy]))
theorem dec_bytes {l:List UInt8} (hl:l.length=32) (h:decF l=true):leB 32 (F25519.encN (decP l))=l:=by
 obtain ⟨hc,hf,hs⟩:=decF_parts h
 obtain ⟨p,h1,h2,h3⟩:=dec_some hl hc hf hs
 rw [decP_of h h3 h2,h1]
theorem dec_enc (p:PtD):decF (leB 32 (F25519.encN p))=true∧decP (leB 32 (F25519.encN p))=p:=by
 obtain ⟨a,b,c⟩:=dec_only (zaq 32 _) p rfl
 have h:=decF_of a b c
 refine ⟨h,?_⟩
 have e:=dec_bytes (zaq 32 _) h
 exact (encB_iff _ _).1 e
open Pm Fl
def pmul (n:Nat) (p:PtD):PtD:=Ed.Pt.mul F25519.full n p
theorem pmul_zero (p:PtD):pmul 0 p=pzero:=Ed.Pt.mul_zero (hf:=F25519.full) p
theorem pmul_succ (n:Nat) (p:PtD):pmul (n+1) p=padd (pmul n p) p:=Ed.Pt.mul_succ (hf:=F25519.full) n p
theorem pmul_one (p:PtD):pmul 1 p=p:=Ed.Pt.mul_one (hf:=F25519.full) p
theorem pmul_add (m n:Nat) (p:PtD):padd (pmul m p) (pmul n p)=pmul (m+n) p:=(Ed.Pt.mul_add (hf:=F25519.full) m n p).symm
theorem pmul_dbl (n:Nat) (p:PtD):padd (pmul n p) (pmul n p)=pmul (2*n) p:=(Ed.Pt.mul_double (hf:=F25519.full) n p).symm
theorem pmul_mul (m n:Nat) (p:PtD):pmul n (pmul m p)=pmul (m*n) p:=(Ed.Pt.mul_mul (hf:=F25519.full) m n p).symm
theorem pmul_padd (n:Nat) (p q:PtD):pmul n (padd p q)=padd (pmul n p) (pmul n q):=Ed.Pt.mul_of_add (hf:=F25519.full) n p q
theorem pmul_neg (n:Nat) (p:PtD):pmul n (Ed.Pt.neg p)=Ed.Pt.neg (pmul n p):=Ed.Pt.mul_neg (hf:=F25519.full) n p
theorem pmul_step (p:PtD) (E k:Nat) (hk:k<256) :
  (if E/2^(255-k) % 2=1 then padd (padd (pmul (E/2^(256-k)) p) (pmul (E/2^(256-k)) p)) p else padd (pmul (E/2^(256-k)) p) (pmul (E/2^(256-k)) p))=pmul (E/2^(256-(k+1))) p:=by
 rw [pmul_dbl]
 have e:E/2^(256-k)=E/2^(255-k)/2:=by
  rw [Nat.div_div_eq_div_mul,← Nat.pow_succ,show (255-k).succ=256-k by omega]
 rw [e,show 256-(k+1)=255-k by omega]
 generalize E/2^(255-k)=y
 split
 ·rename_i h
  rw [← pmul_succ]
  congr 1
  omega
 ·rename_i h
  congr 1
  omega
theorem base_mod (n:Nat):pmul (n % F25519.L) F25519.base=pmul n F25519.base:=Ed.Pt.mul_mod (hf:=F25519.full) F25519.base_order n
abbrev LL:Nat:=7237005577332262213973186563042994240857116359379907606001950938285454250989
def opG (n:Nat) (f:Nat→Int) (a:List Int) (k:Nat):List Int:=(List.range n).map fun i=>if i<k then f i else gI a i
theorem opG_len (n f a k):(opG n f a k).length=n:=by simp [opG]
theorem opG_get {n:Nat} (f:Nat→Int) (a:List Int) (k i:Nat) (h:i<n):gI (opG n f a k) i=if i<k then f i else gI a i:=by
 simp [opG,gI,List.getD,h]
theorem list_ext_gI {l m:List Int} (h:l.length=m.length) (hc:∀ i,i<l.length→gI l i=gI m i):l=m:=by
 apply List.ext_getElem h
 intro i h1 h2
 have:=hc i h1
 simpa [gI,List.getD,List.getElem?_eq_getElem h1,List.getElem?_eq_getElem h2] using this
theorem opG_zero {n:Nat} (f:Nat→Int) {a:List Int} (h:a.length=n):opG n f a 0=a :=
 list_ext_gI (by rw [opG_len,h]) fun i hi=>by rw [opG_len] at hi;rw [opG_get _ _ _ _ hi];simp
theorem opG_set {n:Nat} (f:Nat→Int) (a:List Int) {k:Nat} (h:k<n):(opG n f a k).set k (f k)=opG n f a (k+1) :=
 list_ext_gI (by rw [List.length_set,opG_len,opG_len]) fun i hi=>by
  rw [List.length_set,opG_len] at hi
  rw [gI_set _ _ _ _ (by rw [opG_len];exact h),opG_get _ _ _ _ hi,opG_get _ _ _ _ hi]
  by_cases e:k=i
  ·subst e;simp
  ·rw [if_neg e]
   by_cases h2:i<k
   ·rw [if_pos h2,if_pos (by omega)]
   ·rw [if_neg h2,if_neg (by omega)]
theorem opG_end {n:Nat} (f:Nat→Int) (a:List Int) {b:List Int} (hb:b.length=n) (h:∀ i,i<n→f i=gI b i):opG n f a n=b :=
 list_ext_gI (by rw [opG_len,hb]) fun i hi=>by rw [opG_len] at hi;rw [opG_get _ _ _ _ hi,if_pos hi,h i hi]
theorem gI_dgN:∀ (n i v:Nat),i<n→gI (dgN n (v:Int)) i=((v/65536^i % 65536:Nat):Int)
 | 0,_,_,h=>by omega
 | n+1,0,v,_=>by rw [dgN,gI_zero];simp
 | n+1,i+1,v,h=>by
  rw [dgN,zbn,show (v:Int)/65536=((v/65536:Nat):Int) by omega,gI_dgN n i (v/65536) (by omega),Nat.pow_succ,Nat.mul_comm,Nat.div_div_eq_div_mul]
def dblC (R c k:Nat):Nat:=(2*(R % 65536^k)+c)/65536^k
theorem dblC_zero (R c:Nat):dblC R c 0=c:=by unfold dblC;simp [Nat.mod_one]
theorem dbl_step (R c k:Nat):(dblC R c k+2*(R/65536^k % 65536)) % 65536=(2*R+c)/65536^k % 65536∧(dblC R c k+2*(R/65536^k % 65536))/65536=dblC R c (k+1):=by
 unfold dblC
 rw [Nat.pow_succ]
 have hP:0<65536^k:=Nat.pow_pos (by decide)
 generalize 65536^k=P at *
 have h1:R=P*(R/P)+R % P:=(Nat.div_add_mod R P).symm
 have h2:R/P=65536*(R/P/65536)+R/P % 65536:=(Nat.div_add_mod _ _).symm
 have h3:R % (P*65536)=R % P+P*(R/P % 65536):=Nat.mod_mul
 have hr:R % P<P:=Nat.mod_lt _ hP
 have h4:2*(R % P)+c=P*((2*(R % P)+c)/P)+(2*(R % P)+c) % P:=(Nat.div_add_mod _ _).symm
 have hs:(2*(R % P)+c) % P<P:=Nat.mod_lt _ hP
 have e1:(2*R+c)/P=(2*(R % P)+c)/P+2*(R/P):=by
  rw [show 2*R+c=2*(R % P)+c+2*(R/P)*P by
   have:2*R=2*(P*(R/P))+2*(R % P):=by omega
   rw [this,Nat.mul_comm (2*(R/P)) P,← Nat.mul_assoc,Nat.mul_comm 2 P,Nat.mul_assoc];omega]
  rw [Nat.add_mul_div_right _ _ hP]
 have e2:(2*(R % (P*65536))+c)/(P*65536)=((2*(R % P)+c)/P+2*(R/P % 65536))/65536:=by
  rw [h3,← Nat.div_div_eq_div_mul]
  congr 1
  rw [show 2*(R % P+P*(R/P % 65536))+c=2*(R % P)+c+2*(R/P % 65536)*P by
   rw [Nat.mul_add,← Nat.mul_assoc,Nat.mul_comm 2 P,Nat.mul_assoc,Nat.mul_comm (2*(R/P % 65536)) P];omega]
  rw [Nat.add_mul_div_right _ _ hP]
 rw [e1,e2]
 constructor <;> omega
theorem dblC_le (R c k:Nat) (hc:c<2):dblC R c k<2:=by
 unfold dblC
 have hP:0<65536^k:=Nat.pow_pos (by decide)
 have hr:R % 65536^k<65536^k:=Nat.mod_lt _ hP
 rw [Nat.div_lt_iff_lt_mul hP]
 omega
theorem vL_sub (f g:Nat→Int):∀ l:List Nat,vL (l.map fun i=>f i-g i)=vL (l.map f)-vL (l.map g)
 | []=>rfl
 | a :: l=>by have:=vL_sub f g l;simp only [List.map_cons,vL] at *;omega
theorem range_gI {n:Nat} {l:List Int} (h:l.length=n):(List.range n).map (fun i=>gI l i)=l :=
 list_ext_gI (by simp [h]) fun i hi=>by simp at hi;simp [gI,List.getD,hi]
def subG (R:Nat):List Int:=(List.range 17).map fun i=>gI (dgN 17 (R:Int)) i-gI (dgN 34 (LL:Int)) i
theorem subG_len (R:Nat):(subG R).length=17:=by simp [subG]
theorem subG_get (R i:Nat) (h:i<17):gI (subG R) i=gI (dgN 17 (R:Int)) i-gI (dgN 34 (LL:Int)) i:=by
 simp [subG,gI,List.getD,h]
theorem dg34 (i:Nat) (h:i<17):gI (dgN 34 (LL:Int)) i=gI (dgN 17 (LL:Int)) i:=by
 rw [gI_dgN 34 i LL (by omega),gI_dgN 17 i LL h]
theorem pow17:(65536:Int)^17=((65536^17:Nat):Int):=by decide
theorem pow34:(65536:Int)^34=((65536^34:Nat):Int):=by decide
theorem subG_val (R:Nat) (h:R<65536^17):vL (subG R)=(R:Int)-(LL:Int):=by
 have e:subG R=(List.range 17).map fun i=>gI (dgN 17 (R:Int)) i-gI (dgN 17 (LL:Int)) i:=by
  unfold subG
  apply List.map_congr_left
  intro i hi
  rw [dg34 i (by simpa using hi)]
 rw [e,vL_sub,range_gI (zaD _ _),range_gI (zaD _ _),vL_dgN 17 _ (by omega) (by rw [pow17];exact Int.ofNat_lt.2 h),vL_dgN 17 _ (by omega) (by decide)]
theorem subG_bd (R:Nat):Bd 65536 (subG R):=fun i=>by
 by_cases h:i<17
 ·rw [subG_get R i h]
  have a:=dgN_get 17 (R:Int) i h
  have b:=dgN_get 34 (LL:Int) i (by omega)
  omega
 ·rw [gI_out (by rw [subG_len];omega)];omega
theorem top17 {m:List Int} (hl:m.length=17) (hp:∀ i,i<16→0≤gI m i∧gI m i<65536):(0≤gI m 16↔0≤vL m)∧(0≤vL m→vL m<65536^17→m=dgN 17 (vL m)):=by
 have e:m=m.take 16++[gI m 16]:=by
  have e1:=List.take_append_drop 16 m
  have d:m.drop 16=[gI m 16]:=by
   rw [List.drop_eq_getElem_cons (by omega),List.drop_eq_nil_of_le (by omega)]
   simp [gI,List.getD,List.getElem?_eq_getElem (show 16<m.length by omega)]
  rw [← d];exact e1.symm
 have ht:(m.take 16).length=16:=by rw [List.length_take];omega
 have hv:vL m=vL (m.take 16)+gI m 16*65536^16:=by
  have h:=vL_split (m.take 16) (gI m 16)
  rw [← e,ht] at h
  exact h
 have hb:=vL_bound (m.take 16) (fun i hi=>by
  rw [ht] at hi
  have:=hp i hi
  have e2:gI (m.take 16) i=gI m i:=by unfold gI;simp [List.getD,hi]
  rw [e2];exact this)
 rw [ht] at hb
 have hP:(65536:Int)^16=115792089237316195423570985008687907853269984665640564039457584007913129639936:=by decide
 have hP2:(65536:Int)^17=7588550360256754183279148073529370729071901715047420004889892225542594864082845696:=by decide
 rw [hP] at hv hb
 rw [hP2]
 refine ⟨by omega,fun h0 h1=>?_⟩
 have:=dg_unique m (fun i hi=>by
  rw [hl] at hi
  by_cases h16:i<16
  ·exact hp i h16
  ·have:i=16:=by omega
   subst this
   omega)
 rwa [hl] at this
theorem sub_carry (R:Nat) (h:R<2*LL):(0≤gI (zau (subG R) 16) 16↔LL≤R)∧(LL≤R→zau (subG R) 16=dgN 17 ((R-LL:Nat):Int)):=by
 have hR:R<65536^17:=Nat.lt_trans h (by decide)
 have st:=carry_st (B:=65536) (by decide) (subG_bd R) 16 (by rw [subG_len];omega)
 have hv:=carryTo_val (subG R) 16 (by rw [subG_len];omega)
 rw [subG_val R hR] at hv
 have t:=top17 (by rw [zaP,subG_len]) st.low
 rw [hv] at t
 refine ⟨t.1.trans (by omega),fun hle=>?_⟩
 have:=t.2 (by omega) (by
  have:(R:Int)-(LL:Int)<(65536^17:Nat):=by omega
  simpa using this)
 rwa [show (R:Int)-(LL:Int)=((R-LL:Nat):Int) by omega] at this
theorem bit_at (V i:Nat):V/65536^(i/16) % 65536/2^(i % 16) % 2=V/2^i % 2:=by
 have e:2^i=65536^(i/16)*2^(i % 16):=by
  rw [show (65536:Nat)=2^16 by decide,← Nat.pow_mul,← Nat.pow_add]
  congr 1;omega
 rw [e,← Nat.div_div_eq_div_mul]
 generalize V/65536^(i/16)=a
 have:i % 16<16:=Nat.mod_lt _ (by decide)
 generalize i % 16=r at *
 have h:r=0∨r=1∨r=2∨r=3∨r=4∨r=5∨r=6∨r=7∨r=8∨r=9∨r=10∨r=11∨r=12∨r=13∨r=14∨r=15:=by omega
 rcases h with rfl | rfl | rfl | rfl | rfl | rfl | rfl | rfl | rfl | rfl | rfl | rfl | rfl | rfl | rfl | rfl <;> (simp only [Nat.reducePow];omega)
def modR (V k:Nat):Nat:=V/2^k % LL
theorem modR_lt (V k:Nat):modR V k<LL:=Nat.mod_lt _ (by decide)
theorem modR_step (V k:Nat):modR V k=(2*modR V (k+1)+V/2^k % 2) % LL:=by
 unfold modR
 have e:V/2^k=2*(V/2^(k+1))+V/2^k % 2:=by
  rw [Nat.pow_succ,← Nat.div_div_eq_div_mul];omega
 conv=>lhs;rw [e]
 rw [Nat.add_mod,Nat.mul_mod]
 conv=>rhs;rw [Nat.add_mod,Nat.mul_mod,Nat.mod_mod]
theorem modR_next {V k R c:Nat} (hR:R=modR V (k+1)) (hc:c=V/2^k % 2):modR V k=if LL≤2*R+c then 2*R+c-LL else 2*R+c:=by
 have h1:=modR_lt V (k+1)
 have h2:V/2^k % 2<2:=Nat.mod_lt _ (by decide)
 rw [modR_step,← hR,← hc]
 rw [← hR] at h1
 rw [← hc] at h2
 unfold LL at *
 split <;> omega
theorem modR_top (V:Nat) (h:V<65536^34):modR V 544=0:=by
 rw [show (65536:Nat)=2^16 by decide,← Nat.pow_mul,show 16*34=544 from rfl] at h
 unfold modR
 rw [Nat.div_eq_of_lt h,Nat.zero_mod]
theorem modR_zero (V:Nat):modR V 0=V % LL:=by unfold modR;simp
theorem byte_dg (R i:Nat):R/65536^(i/2) % 65536/2^(8*(i % 2)) % 256=R/256^i % 256:=by
 have e:256^i=65536^(i/2)*2^(8*(i % 2)):=by
  rw [show (65536:Nat)=2^16 by decide,show (256:Nat)=2^8 by decide,← Nat.pow_mul,← Nat.pow_mul,← Nat.pow_add]
  congr 1;omega
 rw [e,← Nat.div_div_eq_div_mul]
 generalize R/65536^(i/2)=a
 have:i % 2=0∨i % 2=1:=by omega
 rcases this with h | h <;> rw [h] <;> simp only [Nat.reducePow,Nat.reduceMul] <;> omega
theorem dg_add (n b k:Nat) (hk:k<68) (hn:n<256^k) (hb:b<256):dgN 34 ((n+b*256^k:Nat):Int)=(dgN 34 (n:Int)).set (k/2) (gI (dgN 34 (n:Int)) (k/2)+((b*2^(8*(k % 2)):Nat):Int)):=by
 have e:256^k=65536^(k/2)*2^(8*(k % 2)):=by
  rw [show (65536:Nat)=2^16 by decide,show (256:Nat)=2^8 by decide,← Nat.pow_mul,← Nat.pow_mul,← Nat.pow_add]
  congr 1;omega
 have hq:k/2<34:=by omega
 have hlt:n<65536^34:=Nat.lt_of_lt_of_le hn (Nat.le_trans (Nat.pow_le_pow_right (by decide) (show k≤68 by omega)) (by decide))
 have hd:n/65536^(k/2)<2^(8*(k % 2)):=by
  rw [Nat.div_lt_iff_lt_mul (Nat.pow_pos (by decide)),Nat.mul_comm,← e];exact hn
 have hr:2^(8*(k % 2))=1∨2^(8*(k % 2))=256:=by
  have:k % 2=0∨k % 2=1:=by omega
  rcases this with h | h <;> rw [h] <;> simp
 have hg:=gI_dgN 34 (k/2) n hq
 have key:=dg_unique ((dgN 34 (n:Int)).set (k/2) (gI (dgN 34 (n:Int)) (k/2)+((b*2^(8*(k % 2)):Nat):Int))) (fun i hi=>by
  rw [List.length_set,zaD] at hi
  rw [gI_set _ _ _ _ (by rw [zaD];exact hq)]
  by_cases h:k/2=i
  ·rw [if_pos h,hg]
   have h2:n/65536^(k/2) % 65536=n/65536^(k/2):=Nat.mod_eq_of_lt (by rcases hr with h | h <;> rw [h] at hd <;> omega)
   rw [h2]
   generalize n/65536^(k/2)=y at *
   rcases hr with h3 | h3 <;> rw [h3] at hd ⊢ <;> omega
  ·rw [if_neg h];exact dgN_get 34 _ i hi)
 rw [List.length_set,zaD,vL_set _ _ _ (by rw [zaD];exact hq),vL_dgN 34 _ (by omega) (by rw [pow34];exact Int.ofNat_lt.2 hlt)] at key
 rw [key]
 congr 1
 rw [e]
 have:((b*(65536^(k/2)*2^(8*(k % 2))):Nat):Int)=((b*2^(8*(k % 2)):Nat):Int)*65536^(k/2):=by
  rw [← Nat.mul_assoc,Nat.mul_right_comm,Int.natCast_mul (b*2^(8*(k % 2)))];simp
 rw [Int.natCast_add,this]
 generalize ((b*2^(8*(k % 2)):Nat):Int)=z
 generalize (65536:Int)^(k/2)=q
 grind
end Go.Proofs.YtkgodlcnoenmbaaGreat
namespace Go.Proofs.YtkgodlcnoenmbaaGreat
open Go.RowKit
set_option linter.unusedVariables false
set_option maxRecDepth 100000
def Us (w:World) (A:Option Addr) (l:List Nat):Prop :=
 0<l.length→∃ b o,A=some ⟨b,o,none⟩∧∀ j,j<l.length→w.cell? ⟨b,o+j,none⟩=some (.int .u64 ((l.getD j 0:Nat):Int))
theorem Us.nil_ (w:World) (A:Option Addr):Us w A []:=fun h=>absurd h (by simp)
theorem Us.at_ {w:World} {A:Option Addr} {l:List Nat} (h:Us w A l) {k:Nat} (hk:k<l.length) :
  ∃ b o,A=some ⟨b,o,none⟩∧w.cell? ⟨b,o+k,none⟩=some (.int .u64 ((l.getD k 0:Nat):Int)):=by
 obtain ⟨b,o,e,hc⟩:=h (by omega)
 exact ⟨b,o,e,hc k hk⟩
theorem Us.drewN {w:World} {A:Option Addr} {l:List Nat} (h:Us w A l) (n:Nat):Us (w.drewN n) A l:=h
theorem Us.below {w w':World} {A:Option Addr} {l:List Nat} (h:Us w A l) (hb:Below w.heap.size w w'):Us w' A l:=fun hl=>by
 obtain ⟨b,o,e,hc⟩:=h hl
 refine ⟨b,o,e,fun j hj=>?_⟩
 have hcj:=hc j hj
 have hlt:=World.block_lt_of_cell? w _ hcj
 rw [hb.cell hlt]
 exact hcj
def uval (x:Nat):Value:=.int .u64 (x:Int)
theorem Us.news {w:World} {a:Addr} {l:List Nat} (h:Us w (some a) l):∀ j u,(l.map uval)[j]?=some u→w.cell? (a.add j)=some u:=by
 intro j u hu
 have hj:j<l.length:=by
  rcases Nat.lt_or_ge j l.length with h | h
  ·exact h
  ·rw [List.getElem?_eq_none (by simpa using h)] at hu;cases hu
 obtain ⟨b,o,e,hc⟩:=h (by omega)
 injection e with e
 subst e
 have hadd:(⟨b,o,none⟩:Addr).add j=⟨b,o+j,none⟩:=by unfold Addr.add;split <;> simp_all
 rw [hadd,hc j hj]
 rw [List.getElem?_map,List.getElem?_eq_getElem hj] at hu
 simp at hu
 subst hu
 simp [uval,List.getD,List.getElem?_eq_getElem hj]
def Uo (E:TypeId) (w:World) (base:Nat) (v:Value) (l:List Nat):Prop:=w.ownsRow base E 1 v l.length (l.map uval)
theorem Uo.nil_ (E:TypeId) (w:World) (base:Nat):Uo E w base (.slice none 0 0) []:=World.ownsRow_nil w base E 1
theorem Uo.form {E:TypeId} {w:World} {base:Nat} {v:Value} {l:List Nat} (h:Uo E w base v l) :
  ∃ A c,v=.slice A l.length c∧Us w A l∧(A=none∨∃ g,A=some ⟨g,0,none⟩∧base≤g∧g<w.heap.size):=by
 rcases h.2 with ⟨rfl,hn⟩ | ⟨g,cap,cur,rfl,hb,hg,hnc,hcm,hcs,htake⟩
 ·have:l=[]:=List.eq_nil_of_length_eq_zero hn
  subst this
  exact ⟨none,0,rfl,Us.nil_ _ _,.inl rfl⟩
 ·refine ⟨_,cap,rfl,fun hl=>⟨g,0,rfl,fun j hj=>?_⟩,.inr ⟨g,rfl,hb,(Array.getElem?_eq_some_iff.1 hg).1⟩⟩
  have:=World.ownsRow.cellAt h j (by omega)
  rw [Nat.zero_add,this,List.getElem?_map,List.getElem?_eq_getElem hj]
  simp [uval,List.getD,List.getElem?_eq_getElem hj]
theorem Uo.bs {E:TypeId} {w:World} {base:Nat} {A:Option Addr} {n c:Nat} {l:List Nat} (h:Uo E w base (.slice A n c) l):Us w A l:=by
 obtain ⟨A',c',e,hb,_⟩:=h.form
 injection e with e1 e2 e3
 subst e1
 exact hb
theorem Uo.below {E:TypeId} {w w':World} {base:Nat} {v:Value} {l:List Nat} (h:Uo E w base v l) (hb:Below w.heap.size w w'):Uo E w' base v l:=by
 refine ⟨h.1,?_⟩
 rcases h.2 with hn | ⟨g,cap,cur,rfl,hb',hg,rest⟩
 ·exact .inl hn
 ·refine .inr ⟨g,cap,cur,rfl,hb',?_,rest⟩
  rw [hb.block g (Array.getElem?_eq_some_iff.1 hg).1]
  exact hg
theorem Uo.drewN {E:TypeId} {w:World} {base:Nat} {v:Value} {l:List Nat} (h:Uo E w base v l) (n:Nat):Uo E (w.drewN n) base v l:=h
theorem Uo.low {E:TypeId} {w:World} {base base':Nat} {v:Value} {l:List Nat} (h:Uo E w base v l) (hb:base'≤base):Uo E w base' v l:=by
 refine ⟨h.1,?_⟩
 rcases h.2 with hn | ⟨g,cap,cur,rfl,hb',rest⟩
 ·exact .inl hn
 ·exact .inr ⟨g,cap,cur,rfl,by omega,rest⟩
theorem Uo.len {E:TypeId} {w:World} {base:Nat} {A:Option Addr} {n c:Nat} {l:List Nat} (h:Uo E w base (.slice A n c) l):n=l.length:=by
 obtain ⟨A',c',e,_,_⟩:=h.form
 injection e with e1 e2 e3
theorem Uo.frozen {E:TypeId} {w:World} {base g n c:Nat} {l:List Nat} (h:Uo E w base (.slice (some ⟨g,0,none⟩) n c) l) (k:Nat):w.frozen? ⟨g,k,none⟩=false:=by
 have:=h.len
 subst this
 exact World.ownsRow.frozenAt h k
theorem Uo.set_ {E:TypeId} {w:World} {base g n c:Nat} {l:List Nat} (h:Uo E w base (.slice (some ⟨g,0,none⟩) n c) l) (k:Nat) (x:Nat) :
  Uo E (w.setCell ⟨g,k,none⟩ (uval x)) base (.slice (some ⟨g,0,none⟩) n c) (l.set k x):=by
 obtain ⟨A',c',e,_,_⟩:=h.form
 injection e with e1 e2 e3
 subst e2
 have:=(World.ownsRow.stored h k (uval x)).1
 unfold Uo
 rw [List.map_set,List.length_set]
 exact this
section
variable {P:Program}
theorem run_append_nil_us (w:World) (base:Nat) (t ty e:TypeId) (i:TypeInfo) (ht:P.underlying t=some (.slice e)) (hi:P.info? e=some i)
  (v:Value) (l:List Nat) (hown:Uo e w base v l) (c:Nat):(Builtin.append_ #[t,t] ty #[v,.slice none 0 c]).run P w=.ok v w:=by
 rcases hown.2 with ⟨rfl,_⟩ | ⟨g,cap,cur,rfl,_,_,hnc,_⟩
 ·simp [Builtin.append_,run_underlying ht,sizeOf,typeInfo,hi,Builtin.lenOf,Builtin.firstCells]
 ·simp [Builtin.append_,run_underlying ht,sizeOf,typeInfo,hi,Builtin.lenOf,Builtin.firstCells,hnc,storeCells]
theorem run_append_us (w:World) (base:Nat) (t ty e:TypeId) (ht:P.underlying t=some (.slice e))
  (he:(P.info? e).map (fun i=>(i.zero,i.size,i.bytes))=some (some (.int .u64 0),1,8))
  (v:Value) (l:List Nat) (hown:Uo e w base v l) (A:Option Addr) (m:List Nat) (c:Nat) (hm:Us w A m)
  (hlen:l.length+m.length≤2147483648) (hbase:base≤w.heap.size) :
  ∃ v' w',(Builtin.append_ #[t,t] ty #[v,.slice A m.length c]).run P w=.ok v' w'∧Uo e w' base v' (l++m)∧w.grownBy w' v.ownBlock:=by
 obtain ⟨i0,hi,hz0,hz1,hz2⟩:=info_parts he
 rcases A with _ | a
 ·have h0:m.length=0:=by
   rcases Nat.eq_zero_or_pos m.length with h | h
   ·exact h
   ·obtain ⟨b,o,e',_⟩:=hm h;cases e'
  have:m=[]:=List.eq_nil_of_length_eq_zero h0
  subst this
  exact ⟨v,w,run_append_nil_us w base t ty e i0 ht hi v l hown c,by simpa using hown,World.grownBy.refl w _⟩
 ·obtain ⟨v',w',hr,h2,h3,_⟩:=run_append_own (P:=P) w base t ty e i0 (.int .u64 0) 1 8 ht hi hz0 hz1 hz2 rfl (by decide) v l.length (l.map uval) hown a m.length c (m.map uval) (by simp)
   hm.news (fun u hu=>by obtain ⟨x,_,rfl⟩:=List.mem_map.1 hu;rfl) (by unfold maxLen;omega) (by omega) hbase
  refine ⟨v',w',hr,?_,h3⟩
  unfold Uo
  rw [List.map_append,List.length_append]
  exact h2
theorem wpList_append_us {w:World} {ops:Array Oper} {rest:List Oper} {o:Oper} {a:Act} {Q:Exit→Act→World→Prop} (hgd:o.guard=none) (s x:Operand) (t:TypeId)
  (ho:o.op=.call { callee:=.builtin .append,args:=#[s,x],argTypes:=#[t,t] }) (base:Nat) (e:TypeId) (ht:P.underlying t=some (.slice e))
  (he:(P.info? e).map (fun i=>(i.zero,i.size,i.bytes))=some (some (.int .u64 0),1,8))
  (v:Value) (l:List Nat) (hs:a.eval s=v) (hown:Uo e w base v l) (A:Option Addr) (m:List Nat) (n c:Nat) (hx:a.eval x=.slice A n c) (hn:n=m.length) (hm:Us w A m)
  (hlen:l.length+m.length≤2147483648) (hbase:base≤w.heap.size)
  (h:∀ v' w',Uo e w' base v' (l++m)→w.grownBy w' v.ownBlock→wpList P ops Q rest (a.put o.dst v') w'):wpList P ops Q (o :: rest) a w:=by
 subst hn
 refine wpList_plain hgd fun K hK=>?_
 obtain ⟨v',w',hrun,h2,h3⟩:=run_append_us (P:=P) w base t o.type e ht he v l hown A m c hm hlen hbase
 unfold Oper.wp execOp
 simp only [ho,resolve,invoke,builtin,Sem.run_bind,Sem.run_pure,Result.andThen_ok,List.map_toArray,List.map_cons,List.map_nil,hs,hx,hrun]
 exact hK _ _ (h v' w' h2 h3)
end
end Go.Proofs.YtkgodlcnoenmbaaGreat
namespace Go.Proofs.YtkgodlcnoenmbaaGreat
open Go.RowKit
set_option linter.unusedVariables false
set_option maxRecDepth 100000
set_option maxHeartbeats 1600000 in
theorem mul_any (x y:Nat) (hx:x<18446744073709551616) (hy:y<18446744073709551616) (w:World) :
  Calls Tryz.prog 147 #[.int .u64 x,.int .u64 y] w fun e w'=>e=.returned (.tuple #[.int .u64 ((x*y/18446744073709551616:Nat):Int),.int .u64 ((x*y % 18446744073709551616:Nat):Int)])∧w'=w:=by
 obtain ⟨bd,bt,bw,hhi⟩:=Lib.mul64_hi x y hx hy
 have ba:=Lib.half_mul_le (a:=x/4294967296) (b:=y/4294967296) (by omega) (by omega)
 have bb:=Lib.half_mul_le (a:=x/4294967296) (b:=y % 4294967296) (by omega) (by omega)
 have bc:=Lib.half_mul_le (a:=x % 4294967296) (b:=y/4294967296) (by omega) (by omega)
 have ba':x/4294967296*(y/4294967296)<18446744073709551616:=by omega
 have bb':x/4294967296*(y % 4294967296)<18446744073709551616:=by omega
 have bc':x % 4294967296*(y/4294967296)<18446744073709551616:=by omega
 have bh1:x/4294967296*(y/4294967296)+(x/4294967296*(y % 4294967296)+x % 4294967296*(y % 4294967296)/4294967296)/4294967296<18446744073709551616:=by omega
 have bh:x/4294967296*(y/4294967296)+(x/4294967296*(y % 4294967296)+x % 4294967296*(y % 4294967296)/4294967296)/4294967296+((x/4294967296*(y % 4294967296)+x % 4294967296*(y % 4294967296)/4294967296) % 4294967296+x % 4294967296*(y/4294967296))/4294967296<18446744073709551616:=by omega
 go_enter Tryz.func147,Tryz.ntmps147
 go_wp2
 simp only [Mul64.maskN x hx,Mul64.maskN y hy,Mul64.divN,Mul64.mulN,Mul64.addN,Mul64.wrapN _ bd,Mul64.wrapN _ bb',Mul64.wrapN _ bt,Mul64.maskN _ bt,Mul64.wrapN _ bc',Mul64.wrapN _ bw,Mul64.wrapN _ ba',Mul64.wrapN _ bh1,Mul64.wrapN _ bh,Mul64.wrapM (x*y)]
 rw [hhi]
 go_ret2
 exact ⟨rfl,rfl⟩
theorem mul_ex (x y:Nat) (hx:x<18446744073709551616) (hy:y<18446744073709551616):∃ h l:Nat,
  Hid (∀ w:World,Calls Tryz.prog 147 #[.int .u64 (x:Int),.int .u64 (y:Int)] w fun e w'=>e=.returned (.tuple #[.int .u64 (h:Int),.int .u64 (l:Int)])∧w'=w) ∧
  h*18446744073709551616+l=x*y∧l<18446744073709551616∧h<18446744073709551616:=by
 have hxy:x*y≤18446744073709551615*18446744073709551615:=Nat.mul_le_mul (by omega) (by omega)
 exact ⟨_,_,yh (mul_any x y hx hy),by omega,by omega,by omega⟩
theorem add_ex (x y c:Nat) (hc:c≤1):∃ z d:Nat,
  (∀ w:World,(callFunc 148 #[.int .u64 (x:Int),.int .u64 (y:Int),.int .u64 (c:Int)]).run Tryz.prog w=.ok (.value (.tuple #[.int .u64 (z:Int),.int .u64 (d:Int)])) w) ∧
  z+d*18446744073709551616=x+y+c∧z<18446744073709551616:=by
 refine ⟨(x+y+c) % 18446744073709551616,(x+y+c)/18446744073709551616,fun w=>?_,by omega,by omega⟩
 rw [run_callFunc_extern Tryz.func148 (by kernel_rfl) (by kernel_rfl) (by kernel_rfl) (e:=add64Entry) (by kernel_rfl),run_add64 x y c (by omega) (by omega) (by omega) (by omega)]
 simp only [Result.andThen]
 congr 5 <;> omega
theorem sub_ex (x y b:Nat) (hx:x<18446744073709551616) (hy:y<18446744073709551616) (hb:b≤1):∃ z d:Nat,
  (∀ w:World,(callFunc 128 #[.int .u64 (x:Int),.int .u64 (y:Int),.int .u64 (b:Int)]).run Tryz.prog w=.ok (.value (.tuple #[.int .u64 (z:Int),.int .u64 (d:Int)])) w) ∧
  z+y+b=x+d*18446744073709551616∧z<18446744073709551616∧d≤1:=by
 refine ⟨(x+18446744073709551616-y-b) % 18446744073709551616,if x<y+b then 1 else 0,fun w=>?_,by split <;> omega,by omega,by split <;> omega⟩
 rw [run_callFunc_extern Tryz.func128 (by kernel_rfl) (by kernel_rfl) (by kernel_rfl) (e:=sub64Entry) (by kernel_rfl),run_sub64 x y b hb]
 rfl
def val4 (a b c d:Nat):Nat:=a+b*18446744073709551616+c*340282366920938463463374607431768211456+d*6277101735386680763835789423207666416102355444464034512896
set_option maxHeartbeats 3200000 in
theorem atMost_any (a0 a1 a2 a3 b0 b1 b2 b3:Nat) (ha0:a0<18446744073709551616) (ha1:a1<18446744073709551616) (ha2:a2<18446744073709551616) (ha3:a3<18446744073709551616)
  (hb0:b0<18446744073709551616) (hb1:b1<18446744073709551616) (hb2:b2<18446744073709551616) (hb3:b3<18446744073709551616) (w:World) :
  Calls Tryz.prog 139 #[.agg #[.int .u64 (a0:Int),.int .u64 (a1:Int),.int .u64 (a2:Int),.int .u64 (a3:Int)],.agg #[.int .u64 (b0:Int),.int .u64 (b1:Int),.int .u64 (b2:Int),.int .u64 (b3:Int)]] w fun e w' =>
   e=.returned (.bool (decide (val4 a0 a1 a2 a3≤val4 b0 b1 b2 b3)))∧Below w.heap.size w w':=by
 obtain ⟨z0,d0,s0,e0,l0,k0⟩:=sub_ex b0 a0 0 hb0 ha0 (by omega)
 obtain ⟨z1,d1,s1,e1,l1,k1⟩:=sub_ex b1 a1 d0 hb1 ha1 k0
 obtain ⟨z2,d2,s2,e2,l2,k2⟩:=sub_ex b2 a2 d1 hb2 ha2 k1
 obtain ⟨z3,d3,s3,e3,l3,k3⟩:=sub_ex b3 a3 d2 hb3 ha3 k2
 have hd:Hid (decide (val4 a0 a1 a2 a3≤val4 b0 b1 b2 b3)=((d3:Int) == 0)):=yh (by
  have hE:val4 z0 z1 z2 z3+val4 a0 a1 a2 a3=val4 b0 b1 b2 b3+d3*115792089237316195423570985008687907853269984665640564039457584007913129639936:=by unfold val4;omega
  have hz:val4 z0 z1 z2 z3<115792089237316195423570985008687907853269984665640564039457584007913129639936:=by unfold val4;omega
  have hd3:d3=0∨d3=1:=by omega
  rcases hd3 with rfl | rfl
  ·rw [decide_eq_true (by omega)];rfl
  ·rw [decide_eq_false (by omega)];rfl)
 rw [hd.out]
 clear e0 e1 e2 e3 l0 l1 l2 l3 k0 k1 k2 k3 hd ha0 ha1 ha2 ha3 hb0 hb1 hb2 hb3
 simp only [Int.ofNat_zero] at s0
 go_enter Tryz.func139,Tryz.ntmps139
 go_wp2
 go_ret
 exact ⟨rfl,((Below.refl _ _).alloc (Nat.le_refl _) _).alloc (by simp) _⟩
end Go.Proofs.YtkgodlcnoenmbaaGreat
namespace Go.Proofs.YtkgodlcnoenmbaaGreat
set_option linter.unusedVariables false
set_option maxRecDepth 100000
def grt (F:Nat→Bool):Nat→Nat→Nat
 | 0,r=>r
 | k+1,r=>grt F k (if F (r+2^k) then r+2^k else r)
theorem grt_spec (F:Nat→Bool) (hm:∀ x y,x≤y→F y=true→F x=true):∀ k r,F r=true →
  r≤grt F k r∧grt F k r<r+2^k∧F (grt F k r)=true∧(grt F k r+1<r+2^k→F (grt F k r+1)=false):=by
 intro k
 induction k with
 | zero=>intro r hr;exact ⟨Nat.le_refl _,by simp [grt],hr,fun h=>by simp [grt] at h⟩
 | succ k ih =>
  intro r hr
  have e:2^(k+1)=2^k+2^k:=by rw [Nat.pow_succ];omega
  have hp:0<2^k:=Nat.two_pow_pos k
  unfold grt
  by_cases h:F (r+2^k)=true
  ·rw [if_pos h]
   obtain ⟨a,b,c,d⟩:=ih (r+2^k) h
   exact ⟨by omega,by omega,c,fun g=>d (by omega)⟩
  ·rw [if_neg h]
   obtain ⟨a,b,c,d⟩:=ih r hr
   refine ⟨a,by omega,c,fun g=>?_⟩
   by_cases g2:grt F k r+1<r+2^k
   ·exact d g2
   ·have:grt F k r+1=r+2^k:=by omega
    rw [this]
    simpa using h
def pw (c:Bool) (y:Nat):Nat:=if c then y*y*y else y*y
def sc (c:Bool):Nat:=if c then 6277101735386680763835789423207666416102355444464034512896 else 340282366920938463463374607431768211456
theorem mul3_le {x y:Nat} (h:x≤y):x*x*x≤y*y*y:=Nat.mul_le_mul (Nat.mul_le_mul h h) h
theorem pw_le (c:Bool) {x y:Nat} (h:x≤y):pw c x≤pw c y:=by
 unfold pw
 split
 ·exact mul3_le h
 ·exact Nat.mul_le_mul h h
def rt (c:Bool) (p:Nat):Nat:=grt (fun y=>decide (pw c y≤p*sc c)) 80 0
theorem rt_spec (c:Bool) {p:Nat} (hp:p<4294967296):pw c (rt c p)≤p*sc c∧p*sc c<pw c (rt c p+1)∧rt c p<1208925819614629174706176:=by
 obtain ⟨-,b,h,d⟩:=grt_spec (fun y=>decide (pw c y≤p*sc c)) (fun x y hxy hy=>by
  have:=pw_le c hxy
  simp at hy ⊢;omega) 80 0 (by cases c <;> simp [pw])
 have e80:(0:Nat)+2^80=1208925819614629174706176:=by decide
 rw [e80] at b d
 change rt c p<_ at b
 change decide (pw c (rt c p)≤_)=true at h
 change rt c p+1<_→decide (pw c (rt c p+1)≤_)=false at d
 refine ⟨by simpa using h,?_,b⟩
 by_cases g:rt c p+1<1208925819614629174706176
 ·have:=d g
  simp at this
  exact this
 ·have e:rt c p+1=1208925819614629174706176:=by omega
  rw [e]
  cases c <;> simp only [pw,sc] <;> simp <;> omega
theorem rt_eq (c:Bool) {p y:Nat} (hp:p<4294967296) (h1:pw c y≤p*sc c) (h2:p*sc c<pw c (y+1)):rt c p=y:=by
 obtain ⟨a,b,-⟩:=rt_spec c hp
 rcases Nat.lt_trichotomy (rt c p) y with h | h | h
 ·have:=pw_le c (show rt c p+1≤y from h);omega
 ·exact h
 ·have:=pw_le c (show y+1≤rt c p from h);omega
def sqv (c:Bool) (p:Nat):Nat:=if p<4294967296 then rt c p % 18446744073709551616 else 0
theorem sqv_lt (c:Bool) (p:Nat):sqv c p<18446744073709551616:=by unfold sqv;split <;> omega
def wh (c:Bool) (p:Nat):Nat:=grt (fun x=>decide (pw c x≤p)) 16 0
theorem wh_spec (c:Bool) {p:Nat} (hp:p<4294967296):pw c (wh c p)≤p∧p<pw c (wh c p+1)∧wh c p<65536:=by
 obtain ⟨-,b,h,d⟩:=grt_spec (fun y=>decide (pw c y≤p)) (fun x y hxy hy=>by
  have:=pw_le c hxy
  simp at hy ⊢;omega) 16 0 (by cases c <;> simp [pw])
 have e16:(0:Nat)+2^16=65536:=by decide
 rw [e16] at b d
 change wh c p<_ at b
 change decide (pw c (wh c p)≤_)=true at h
 change wh c p+1<_→decide (pw c (wh c p+1)≤_)=false at d
 refine ⟨by simpa using h,?_,b⟩
 by_cases g:wh c p+1<65536
 ·have:=d g
  simp at this
  exact this
 ·have e:wh c p+1=65536:=by omega
  rw [e]
  cases c <;> simp only [pw] <;> simp <;> omega
def ex (c:Bool) (a x:Nat):Nat :=
 if c then ((3*a*18446744073709551616+x)*x+3*a*a*340282366920938463463374607431768211456)*x else (2*a*18446744073709551616+x)*x
theorem pw_ex (c:Bool) (a x:Nat):pw c (a*18446744073709551616+x)=pw c a*sc c+ex c a x:=by
 cases c <;> simp only [pw,sc,ex] <;> simp <;> grind
theorem ex_le (c:Bool) (a:Nat) {x y:Nat} (h:x≤y):ex c a x≤ex c a y:=by
 have h1:=pw_ex c a x
 have h2:=pw_ex c a y
 have h3:=pw_le c (show a*18446744073709551616+x≤a*18446744073709551616+y by omega)
 omega
def fr (c:Bool) (a rest:Nat):Nat:=grt (fun x=>decide (ex c a x≤rest*sc c)) 64 0
theorem fr_rt (c:Bool) {p:Nat} (hp:p<4294967296):fr c (wh c p) (p-pw c (wh c p))=rt c p % 18446744073709551616:=by
 obtain ⟨w1,w2,w3⟩:=wh_spec c hp
 generalize wh c p=a at *
 obtain ⟨-,b,h,d⟩:=grt_spec (fun x=>decide (ex c a x≤(p-pw c a)*sc c)) (fun x y hxy hy=>by
  have:=ex_le c a hxy
  simp at hy ⊢;omega) 64 0 (by cases c <;> simp [ex])
 have e64:(0:Nat)+2^64=18446744073709551616:=by decide
 rw [e64] at b d
 change fr c a (p-pw c a)<_ at b
 change decide (ex c a (fr c a (p-pw c a))≤_)=true at h
 change fr c a (p-pw c a)+1<_→decide (ex c a (fr c a (p-pw c a)+1)≤_)=false at d
 generalize fr c a (p-pw c a)=x at *
 have es:(p-pw c a)*sc c+pw c a*sc c=p*sc c:=by rw [← Nat.add_mul];congr 1;omega
 have k1:pw c (a*18446744073709551616+x)≤p*sc c:=by
  rw [pw_ex]
  simp at h
  omega
 have k2:p*sc c<pw c (a*18446744073709551616+x+1):=by
  by_cases g:x+1<18446744073709551616
  ·have:=d g
   rw [Nat.add_assoc,pw_ex]
   simp at this
   omega
  ·have e:a*18446744073709551616+x+1=(a+1)*18446744073709551616+0:=by omega
   rw [e,pw_ex]
   have:p*sc c<pw c (a+1)*sc c:=Nat.mul_lt_mul_of_pos_right w2 (by cases c <;> simp [sc])
   omega
 rw [rt_eq c hp k1 k2]
 omega
def isP (n:Nat):Bool:=(List.range n).all (fun d=>Nat.ble d 1||!(Nat.beq (n % d) 0))
def pl (x:Nat):List Nat:=(List.range x).filter (fun n=>Nat.ble 2 n&&isP n)
theorem isP_iff {n:Nat}:isP n=true↔∀ d,2≤d→d<n→n % d≠0:=by
 simp only [isP,List.all_eq_true,List.mem_range,Bool.or_eq_true,Nat.ble_eq,Bool.not_eq_true']
 constructor
 ·intro h d h2 hd e
  rcases h d hd with g | g
  ·omega
  ·rw [e] at g;cases g
 ·intro h d hd
  rcases Nat.lt_or_ge 1 d with g | g
  ·refine .inr ?_
   have:=h d g hd
   cases hb:Nat.beq (n % d) 0
   ·rfl
   ·exact absurd (Nat.eq_of_beq_eq_true hb) this
  ·exact .inl g
theorem mem_pl {x n:Nat}:n ∈ pl x↔n<x∧2≤n∧isP n=true:=by
 simp [pl,List.mem_filter]
theorem has_prime:∀ d,2≤d→∃ q,2≤q∧q≤d∧isP q=true∧d % q=0:=by
 intro d
 induction d using Nat.strongRecOn with
 | ind d ih =>
  intro h
  by_cases hp:isP d=true
  ·exact ⟨d,h,Nat.le_refl _,hp,Nat.mod_self d⟩
  ·have hne:¬ ∀ e,2≤e→e<d→d % e≠0:=fun g=>hp (isP_iff.2 g)
   obtain ⟨e,h2,hlt,h0⟩:∃ e,2≤e∧e<d∧d % e=0:=by
    apply Classical.byContradiction
    intro hno
    exact hne fun e a b c=>hno ⟨e,a,b,c⟩
   obtain ⟨q,q2,qe,qp,q0⟩:=ih e hlt h2
   exact ⟨q,q2,by omega,qp,Nat.mod_eq_zero_of_dvd (Nat.dvd_trans (Nat.dvd_of_mod_eq_zero q0) (Nat.dvd_of_mod_eq_zero h0))⟩
theorem isP_any {x:Nat} (hx:2≤x):isP x=!((pl x).any fun q=>decide (x % q=0)):=by
 cases hp:isP x
 ·have hne:¬ ∀ e,2≤e→e<x→x % e≠0:=fun g=>by rw [isP_iff.2 g] at hp;cases hp
  obtain ⟨e,h2,hlt,h0⟩:∃ e,2≤e∧e<x∧x % e=0:=by
   apply Classical.byContradiction
   intro hno
   exact hne fun e a b c=>hno ⟨e,a,b,c⟩
  obtain ⟨q,q2,qe,qp,q0⟩:=has_prime e h2
  have:(pl x).any (fun q=>decide (x % q=0))=true:=by
   rw [List.any_eq_true]
   exact ⟨q,mem_pl.2 ⟨by omega,q2,qp⟩,by simp;exact Nat.mod_eq_zero_of_dvd (Nat.dvd_trans (Nat.dvd_of_mod_eq_zero q0) (Nat.dvd_of_mod_eq_zero h0))⟩
  rw [this];rfl
 ·have:(pl x).any (fun q=>decide (x % q=0))=false:=by
   rw [List.any_eq_false]
   intro q hq
   obtain ⟨a,b,-⟩:=mem_pl.1 hq
   have:=isP_iff.1 hp q b a
   simpa using this
  rw [this];rfl
theorem pl_succ (x:Nat) (hx:2≤x):pl (x+1)=if isP x then pl x++[x] else pl x:=by
 unfold pl
 have h2:Nat.ble 2 x=true:=by rw [Nat.ble_eq];exact hx
 rw [List.range_succ,List.filter_append]
 cases h:isP x <;> simp [h,h2]
theorem pl_prefix {x y:Nat} (h:x≤y):pl x <+: pl y:=by
 obtain ⟨d,rfl⟩:∃ d,y=x+d:=⟨y-x,by omega⟩
 clear h
 induction d with
 | zero=>exact List.prefix_refl _
 | succ d ih =>
  refine List.IsPrefix.trans ih ?_
  unfold pl
  rw [show x+(d+1)=(x+d)+1 by omega,List.range_succ,List.filter_append]
  exact List.prefix_append _ _
def P100:List Nat:=[2,3,5,7,11,13,17,19,23,29,31,37,41,43,47,53,59,61,67,71,73,79,83,89,97,101,103,107,109,113,127,131,137,139,149,151,157,163,167,173,179,181,191,193,197,199,211,223,227,229,233,239,241,251,257,263,269,271,277,281,283,293,307,311,313,317,331,337,347,349,353,359,367,373,379,383,389,397,401,409,419,421,431,433,439,443,449,457,461,463,467,479,487,491,499,503,509,521,523,541]
theorem pl_all:pl 542=P100:=by decide +kernel
theorem P100_len:P100.length=100:=by decide
theorem pl_take {x:Nat} (hx:x≤542):pl x=P100.take (pl x).length:=by
 have:=List.prefix_iff_eq_take.1 (pl_prefix hx)
 rw [pl_all] at this
 exact this
theorem pl_two:pl 2=[]:=by decide
theorem P100_lt:∀ x ∈ P100,x<542:=by decide
end Go.Proofs.YtkgodlcnoenmbaaGreat
namespace Go.Proofs.YtkgodlcnoenmbaaGreat
open Go.RowKit
set_option linter.unusedVariables false
set_option maxRecDepth 100000
theorem times_sum (x0 x1 x2 y:Nat):val4 x0 x1 x2 0*y=x0*y+(x1*y)*18446744073709551616+(x2*y)*340282366920938463463374607431768211456:=by
 have h:∀ a b c:Nat,(x0+x1*a+x2*b+0*c)*y=x0*y+(x1*y)*a+(x2*y)*b:=by intro a b c;grind
 exact h _ _ _
set_option maxHeartbeats 3200000 in
theorem times_ex (x0 x1 x2 y:Nat) (h0:x0<18446744073709551616) (h1:x1<18446744073709551616) (h2:x2<18446744073709551616) (hy:y<18446744073709551616):∃ r0 r1 r2 r3:Nat,
  Hid (∀ w:World,Calls Tryz.prog 138 #[.agg #[.int .u64 (x0:Int),.int .u64 (x1:Int),.int .u64 (x2:Int),.int .u64 0],.int .u64 (y:Int)] w fun e w' =>
   e=.returned (.agg #[.int .u64 (r0:Int),.int .u64 (r1:Int),.int .u64 (r2:Int),.int .u64 (r3:Int)])∧Below w.heap.size w w') ∧
  val4 r0 r1 r2 r3=val4 x0 x1 x2 0*y∧r0<18446744073709551616∧r1<18446744073709551616∧r2<18446744073709551616∧r3<18446744073709551616:=by
 obtain ⟨u0,l0,M0,m0,p0,q0⟩:=mul_ex x0 y h0 hy
 obtain ⟨u1,l1,M1,m1,p1,q1⟩:=mul_ex x1 y h1 hy
 obtain ⟨u2,l2,M2,m2,p2,q2⟩:=mul_ex x2 y h2 hy
 obtain ⟨z1,d1,s1,e1,k1⟩:=add_ex l1 u0 0 (by omega)
 obtain ⟨z2,d2,s2,e2,k2⟩:=add_ex l2 u1 d1 (by omega)
 obtain ⟨z3,d3,s3,e3,k3⟩:=add_ex 0 u2 d2 (by omega)
 refine ⟨l0,z1,z2,z3,yh fun w=>?_,?_,p0,k1,k2,k3⟩
 ·clear m0 m1 m2 e1 e2 e3 p0 p1 p2 q0 q1 q2 k1 k2 k3 h0 h1 h2
  simp only [Int.ofNat_zero] at s1 s3
  go_enter Tryz.func138,Tryz.ntmps138
  go_wp2_with fail
  with_reducible refine (M0.out _).mono ?_
  rintro e w' ⟨rfl,rfl⟩
  go_wp2_with fail
  with_reducible refine (M1.out _).mono ?_
  rintro e w' ⟨rfl,rfl⟩
  go_wp2_with fail
  with_reducible refine (M2.out _).mono ?_
  rintro e w' ⟨rfl,rfl⟩
  go_wp2
  simp [bodyPost,results,Tryz.results138,go_sem]
  exact ((Below.refl _ _).alloc (Nat.le_refl _) _).alloc (by simp) _
 ·have hs:=times_sum x0 x1 x2 y
  rw [hs,← m0,← m1,← m2]
  have hX:val4 x0 x1 x2 0*y≤6277101735386680763835789423207666416102355444464034512895*18446744073709551615:=Nat.mul_le_mul (by unfold val4;omega) (by omega)
  rw [hs,← m0,← m1,← m2] at hX
  unfold val4
  omega
end Go.Proofs.YtkgodlcnoenmbaaGreat
namespace Go.Proofs.YtkgodlcnoenmbaaGreat
open Go.RowKit
set_option linter.unusedVariables false
set_option maxRecDepth 100000
def hb:Nat→Nat | 0=>0 | j+1=>2^j
theorem hb_half (i:Nat):2^i/2=hb i:=by
 cases i with
 | zero=>rfl
 | succ i=>simp only [hb];rw [Nat.pow_succ];omega
theorem or_add {r i:Nat} (h:2^(i+1) ∣ r):r ||| 2^i=r+2^i:=by
 obtain ⟨q,rfl⟩:=h
 exact (Nat.two_pow_add_eq_or_of_lt (i:=i+1) (b:=2^i) (by rw [Nat.pow_succ];have:=Nat.two_pow_pos i;omega) q).symm
set_option maxHeartbeats 3200000 in
theorem greatest_any (K:Nat) (hK:K=16∨K=64) (F:Nat→Bool) (k:FuncId) (caps:Array Value) (w:World)
  (hent:∀ args W,(callFunc k args).run Tryz.prog W=.ok (.enter k args) W)
  (hclo:∀ x,x<2^K→∀ W,Below w.heap.size w W→Calls Tryz.prog k (#[.int .u64 (x:Int)]++caps) W fun e W'=>e=.returned (.bool (F x))∧Below W.heap.size W W') :
  Calls Tryz.prog 135 #[.int .i64 (K:Int),.func (.func k) #[] caps] w fun e w'=>e=.returned (.int .u64 ((grt F K 0:Nat):Int))∧Below w.heap.size w w':=by
 have HC:=yh hclo
 clear hclo
 obtain ⟨B0,hB0⟩:∃ B0:Nat,B0=hb K:=⟨_,rfl⟩
 have h2K:2^K≤18446744073709551616:=by rcases hK with rfl | rfl <;> decide
 have hKb:1≤K∧K≤64:=by omega
 have hB2:B0=2^(K-1):=by rw [hB0];obtain ⟨K',rfl⟩:∃ K',K=K'+1:=⟨K-1,by omega⟩;rfl
 have hsh:IntKind.u64.wrap (2^(K-1))=(B0:Int):=by
  have hlt:2^(K-1)<18446744073709551616:=by
   have:2^K=2^(K-1)+2^(K-1):=by rw [show K=(K-1)+1 by omega,Nat.pow_succ];simp;omega
   have:=Nat.two_pow_pos (K-1)
   omega
  have e:(2:Int)^(K-1)=((2^(K-1):Nat):Int):=by simp
  rw [e,hB2,IntKind.wrap_u64]
  omega
 have H2K:=yh h2K
 have HB0:=yh hB0
 clear h2K hB0 hK hB2
 go_enter Tryz.func135,Tryz.ntmps135
 go_wp2
 go_loopw [5,6] (fun f b wr=>∃ j r:Nat,Hid (j≤K)∧b=.int .u64 ((hb j:Nat):Int)∧f=.int .u64 (r:Int)∧Hid (2^j ∣ r)∧Hid (r+2^j≤2^K)∧Hid (grt F j r=grt F K 0)∧Hid (Below w.heap.size w wr))
  (fun _ b _=>(intOf b).toNat)
 case atStart=>exact ⟨K,0,yh (Nat.le_refl _),by rw [← HB0.out],rfl,yh (Nat.dvd_zero _),yh (by omega),yh rfl,yh (Below.refl _ _)⟩
 case round =>
  obtain ⟨j,r,hj,rfl,rfl,hdv,hle,hg,hbel⟩:=hrel
  clear hsh
  rcases j with _ | i
  ·have hg':=hg.out
   simp only [grt] at hg'
   subst hg'
   simp only [hb]
   have HB:=hbel.out
   clear hbel hle hdv hj HC H2K HB0 hent
   go_wp2
   go_ret
   exact ⟨rfl,HB⟩
  ·obtain ⟨B,hB⟩:∃ B:Nat,B=2^i:=⟨_,rfl⟩
   obtain ⟨C,hC⟩:∃ C:Nat,C=hb i:=⟨_,rfl⟩
   obtain ⟨q,hq⟩:∃ q:Nat,q=r+B:=⟨_,rfl⟩
   have hhalf:B/2=C:=by rw [hB,hC];exact hb_half i
   have hBpos:0<B:=by rw [hB];exact Nat.two_pow_pos i
   have hpow:2^(i+1)=B+B:=by rw [hB,Nat.pow_succ];omega
   have hle':=hle.out
   have h2K':=H2K.out
   rw [hpow] at hle'
   have hor:bits .or .u64 (r:Int) (B:Int)=(q:Int):=by
    rw [u64_or_nat r B (by omega) (by omega),hB,or_add hdv.out,← hB,← hq]
   have hdi:2^i ∣ r:=Nat.dvd_trans ⟨2,by rw [Nat.pow_succ]⟩ hdv.out
   have hdq:2^i ∣ q:=by rw [hq,hB];exact Nat.dvd_add hdi (Nat.dvd_refl _)
   have hgs:grt F (i+1) r=grt F i (if F q then q else r):=by rw [hq,hB];rfl
   have Hj:Hid (i≤K):=yh (by have:=hj.out;omega)
   have HC2:=yh (HC.out q (by omega) wr hbel.out)
   have Hle1:Hid (q+2^i≤2^K):=yh (by omega)
   have Hle2:Hid (r+2^i≤2^K):=yh (by omega)
   have Hdi:=yh hdi
   have Hdq:=yh hdq
   have Hq:Hid (grt F i (if F q then q else r)=grt F K 0):=yh (by rw [← hgs];exact hg.out)
   have hBi:B<18446744073709551616:=by omega
   have hb1:hb (i+1)=B:=by rw [hB];rfl
   rw [hb1]
   clear hb1 hgs hdq hdi hpow hle' h2K' hle hdv hj hg hq hB HC
   have HBel:=hbel
   clear hbel
   by_cases hF:F q=true
   ·have HC3:Hid (Calls Tryz.prog k (#[.int .u64 (q:Int)]++caps) wr fun e W'=>e=.returned (.bool true)∧Below wr.heap.size wr W'):=yh (by have:=HC2.out;rw [hF] at this;exact this)
    rw [if_pos hF] at Hq
    clear hF HC2
    go_wp2_with fail
    go_at_fn k
    refine HC3.out.mono ?_
    rintro e w' ⟨rfl,hb'⟩
    have HB':=yh (HBel.out.trans (hb'.mono HBel.out.size))
    clear HC3 hb' HBel
    go_wp2_with fail
    go_roundw
    case rel=>exact ⟨i,q,Hj,by rw [← hC];go_num,rfl,Hdq,Hle1,Hq,HB'⟩
    case measure=>simp [intOf];omega
   ·have hF':F q=false:=by simpa using hF
    have HC3:Hid (Calls Tryz.prog k (#[.int .u64 (q:Int)]++caps) wr fun e W'=>e=.returned (.bool false)∧Below wr.heap.size wr W'):=yh (by have:=HC2.out;rw [hF'] at this;exact this)
    rw [if_neg hF] at Hq
    clear hF hF' HC2
    go_wp2_with fail
    go_at_fn k
    refine HC3.out.mono ?_
    rintro e w' ⟨rfl,hb'⟩
    have HB':=yh (HBel.out.trans (hb'.mono HBel.out.size))
    clear HC3 hb' HBel
    go_wp2_with fail
    go_roundw
    case rel=>exact ⟨i,r,Hj,by rw [← hC];go_num,rfl,Hdi,Hle2,Hq,HB'⟩
    case measure=>simp [intOf];omega
end Go.Proofs.YtkgodlcnoenmbaaGreat
namespace Go.Proofs.YtkgodlcnoenmbaaGreat
open Go.RowKit
set_option linter.unusedVariables false
set_option maxRecDepth 100000
theorem cell_alloc {w:World} {a:Addr} {v:Value} (h:w.cell? a=some v) (o:Obj):(w.alloc o).cell? a=some v:=by
 have:=World.block_lt_of_cell? w _ h
 rw [((Below.refl w.heap.size w).alloc (Nat.le_refl _) o).cell this];exact h
theorem za5 {w w':World} {a:Addr} {v:Value} (h:w.cell? a=some v) (hb:Below w.heap.size w w'):w'.cell? a=some v:=by
 rw [hb.cell (World.block_lt_of_cell? w _ h)];exact h
theorem zaa {w w1 w2:World} (h:Below w.heap.size w w1) (h2:Below w1.heap.size w1 w2):Below w.heap.size w w2:=h.trans (h2.mono h.size)
theorem zae {w w1:World} (h:Below w.heap.size w w1) (o:Obj):Below w.heap.size w (w1.alloc o):=h.alloc h.size o
set_option maxHeartbeats 1600000 in
theorem sq1_any (g p x:Nat) (hx:x<65536) (W:World) (hc:W.cell? ⟨g,0,none⟩=some (.int .u64 (p:Int))) :
  Calls Tryz.prog 161 #[.int .u64 (x:Int),.pointer (some ⟨g,0,none⟩)] W fun e W'=>e=.returned (.bool (decide (pw false x≤p)))∧Below W.heap.size W W':=by
 have hm:pw false x≤65535*65535:=Nat.mul_le_mul (by omega) (by omega)
 have hw:IntKind.u64.wrap ((x:Int)*(x:Int))=((pw false x:Nat):Int):=by
  rw [← Int.natCast_mul,show x*x=pw false x from rfl,IntKind.wrap_u64];omega
 generalize pw false x=m at *
 clear hx hm
 go_enter Tryz.func161,Tryz.ntmps161
 go_wp2
 go_ret
 exact ⟨rfl,Below.refl _ _⟩
set_option maxHeartbeats 1600000 in
theorem cu1_any (g p x:Nat) (hx:x<65536) (W:World) (hc:W.cell? ⟨g,0,none⟩=some (.int .u64 (p:Int))) :
  Calls Tryz.prog 136 #[.int .u64 (x:Int),.pointer (some ⟨g,0,none⟩)] W fun e W'=>e=.returned (.bool (decide (pw true x≤p)))∧Below W.heap.size W W':=by
 have hq:x*x≤65535*65535:=Nat.mul_le_mul (by omega) (by omega)
 have hm:pw true x≤65535*65535*65535:=Nat.mul_le_mul hq (by omega)
 have hw:∃ q:Nat,IntKind.u64.wrap ((x:Int)*(x:Int))=(q:Int)∧IntKind.u64.wrap ((q:Int)*(x:Int))=((pw true x:Nat):Int):=by
  refine ⟨x*x,?_,?_⟩
  ·rw [← Int.natCast_mul,IntKind.wrap_u64];omega
  ·rw [← Int.natCast_mul,show x*x*x=pw true x from rfl,IntKind.wrap_u64];omega
 obtain ⟨q,w1,w2⟩:=hw
 generalize pw true x=m at *
 clear hx hm hq
 go_enter Tryz.func136,Tryz.ntmps136
 go_wp2
 go_ret
 exact ⟨rfl,Below.refl _ _⟩
theorem atMost2 (a0 a1 a2 a3 r:Nat) (ha0:a0<18446744073709551616) (ha1:a1<18446744073709551616) (ha2:a2<18446744073709551616) (ha3:a3<18446744073709551616) (hr:r<18446744073709551616) (w:World) :
  Calls Tryz.prog 139 #[.agg #[.int .u64 (a0:Int),.int .u64 (a1:Int),.int .u64 (a2:Int),.int .u64 (a3:Int)],.agg #[.int .u64 0,.int .u64 0,.int .u64 (r:Int),.int .u64 0]] w fun e w' =>
   e=.returned (.bool (decide (val4 a0 a1 a2 a3≤val4 0 0 r 0)))∧Below w.heap.size w w' :=
 atMost_any a0 a1 a2 a3 0 0 r 0 ha0 ha1 ha2 ha3 (by omega) (by omega) hr (by omega) w
theorem atMost3 (a0 a1 a2 a3 r:Nat) (ha0:a0<18446744073709551616) (ha1:a1<18446744073709551616) (ha2:a2<18446744073709551616) (ha3:a3<18446744073709551616) (hr:r<18446744073709551616) (w:World) :
  Calls Tryz.prog 139 #[.agg #[.int .u64 (a0:Int),.int .u64 (a1:Int),.int .u64 (a2:Int),.int .u64 (a3:Int)],.agg #[.int .u64 0,.int .u64 0,.int .u64 0,.int .u64 (r:Int)]] w fun e w' =>
   e=.returned (.bool (decide (val4 a0 a1 a2 a3≤val4 0 0 0 r)))∧Below w.heap.size w w' :=
 atMost_any a0 a1 a2 a3 0 0 0 r ha0 ha1 ha2 ha3 (by omega) (by omega) (by omega) hr w
theorem val4_two (x t:Nat):val4 x t 0 0=t*18446744073709551616+x:=by unfold val4;omega
theorem val4_2 (r:Nat):val4 0 0 r 0=r*sc false:=by
 have:sc false=340282366920938463463374607431768211456:=by unfold sc;simp only [Bool.false_eq_true,if_false]
 rw [this];unfold val4;omega
theorem val4_3 (r:Nat):val4 0 0 0 r=r*sc true:=by
 have:sc true=6277101735386680763835789423207666416102355444464034512896:=by unfold sc;simp only [if_true]
 rw [this];unfold val4;omega
theorem ex_sq (a x:Nat):ex false a x=(2*a*18446744073709551616+x)*x:=by unfold ex;simp only [Bool.false_eq_true,if_false]
theorem ex_cu (a x:Nat):ex true a x=((3*a*18446744073709551616+x)*x+3*a*a*340282366920938463463374607431768211456)*x:=by unfold ex;simp only [if_true]
theorem val4_up (a b c m:Nat):val4 a b (c+m) 0=val4 a b c 0+m*340282366920938463463374607431768211456:=by unfold val4;omega
set_option maxHeartbeats 1600000 in
theorem sq2_any (ga gr a r x:Nat) (ha:a<65536) (hr:r<18446744073709551616) (hx:x<18446744073709551616) (W:World) (hca:W.cell? ⟨ga,0,none⟩=some (.int .u64 (a:Int))) (hcr:W.cell? ⟨gr,0,none⟩=some (.int .u64 (r:Int))) :
  Calls Tryz.prog 162 #[.int .u64 (x:Int),.pointer (some ⟨ga,0,none⟩),.pointer (some ⟨gr,0,none⟩)] W fun e W'=>e=.returned (.bool (decide (ex false a x≤r*sc false)))∧Below W.heap.size W W':=by
 obtain ⟨t,ht⟩:∃ t:Nat,t=2*a:=⟨_,rfl⟩
 have hw:IntKind.u64.wrap (2*(a:Int))=(t:Int):=by rw [IntKind.wrap_u64];omega
 obtain ⟨r0,r1,r2,r3,HT,hv,k0,k1,k2,k3⟩:=times_ex x t 0 x hx (by omega) (by omega) hx
 have HA:=yh (fun w=>atMost2 r0 r1 r2 r3 r k0 k1 k2 k3 hr w)
 have hd:(decide (val4 r0 r1 r2 r3≤val4 0 0 r 0))=decide (ex false a x≤r*sc false):=by
  rw [val4_2,hv,val4_two,ht,ex_sq]
 rw [← hd]
 have hltr:=World.block_lt_of_cell? W _ hcr
 have HT':Hid (∀ w:World,Calls Tryz.prog 138 #[.agg #[.int .u64 (x:Int),.int .u64 (t:Int),.int .u64 0,.int .u64 0],.int .u64 (x:Int)] w fun e w' =>
   e=.returned (.agg #[.int .u64 (r0:Int),.int .u64 (r1:Int),.int .u64 (r2:Int),.int .u64 (r3:Int)])∧Below w.heap.size w w'):=HT
 clear hd hv k0 k1 k2 k3 HT ht ha hr hx
 go_enter Tryz.func162,Tryz.ntmps162
 go_wp2_with fail
 with_reducible refine (HT'.out _).mono ?_
 rintro e w1 ⟨rfl,hb1⟩
 have c1:=fun o=>cell_alloc (za5 hcr hb1) o
 have HB1:=yh hb1
 clear hb1 HT' hcr hca hw hltr
 go_wp2_with fail
 with_reducible refine (HA.out _).mono ?_
 rintro e w2 ⟨rfl,hb2⟩
 have HB2:=yh (zaa (zae HB1.out _) hb2)
 clear hb2 HB1 c1
 go_wp2_with fail
 go_ret
 exact ⟨rfl,HB2⟩
set_option maxHeartbeats 1600000 in
theorem cu2_any (ga gr a r x:Nat) (ha:a<65536) (hr:r<18446744073709551616) (hx:x<18446744073709551616) (W:World) (hca:W.cell? ⟨ga,0,none⟩=some (.int .u64 (a:Int))) (hcr:W.cell? ⟨gr,0,none⟩=some (.int .u64 (r:Int))) :
  Calls Tryz.prog 137 #[.int .u64 (x:Int),.pointer (some ⟨ga,0,none⟩),.pointer (some ⟨gr,0,none⟩)] W fun e W'=>e=.returned (.bool (decide (ex true a x≤r*sc true)))∧Below W.heap.size W W':=by
 obtain ⟨t,ht⟩:∃ t:Nat,t=3*a:=⟨_,rfl⟩
 obtain ⟨m,hm⟩:∃ m:Nat,m=t*a:=⟨_,rfl⟩
 have hml:m≤196605*65535:=by rw [hm];exact Nat.mul_le_mul (by omega) (by omega)
 have hw1:IntKind.u64.wrap (3*(a:Int))=(t:Int):=by rw [IntKind.wrap_u64];omega
 have hw2:IntKind.u64.wrap ((t:Int)*(a:Int))=(m:Int):=by rw [← Int.natCast_mul,← hm,IntKind.wrap_u64];omega
 obtain ⟨r0,r1,r2,r3,HT,hv,k0,k1,k2,k3⟩:=times_ex x t 0 x hx (by omega) (by omega) hx
 have hbig:val4 x t 0 0*x≤3626777458843887524118527*18446744073709551615:=Nat.mul_le_mul (by unfold val4;omega) (by omega)
 obtain rfl:r3=0:=by rw [← hv] at hbig;unfold val4 at hbig;omega
 have hr2:r2≤196608:=by rw [← hv] at hbig;unfold val4 at hbig;omega
 obtain ⟨s,hs⟩:∃ s:Nat,s=r2+m:=⟨_,rfl⟩
 have hw3:IntKind.u64.wrap ((r2:Int)+(m:Int))=(s:Int):=by rw [IntKind.wrap_u64];omega
 have hsl:s<18446744073709551616:=by omega
 obtain ⟨q0,q1,q2,q3,HU,hu,j0,j1,j2,j3⟩:=times_ex r0 r1 s x k0 k1 hsl hx
 have HA:=yh (fun w=>atMost3 q0 q1 q2 q3 r j0 j1 j2 j3 hr w)
 have hd:(decide (val4 q0 q1 q2 q3≤val4 0 0 0 r))=decide (ex true a x≤r*sc true):=by
  rw [val4_3,hu,hs,val4_up,hv,val4_two,hm,ht,ex_cu]
 rw [← hd]
 have HT':Hid (∀ w:World,Calls Tryz.prog 138 #[.agg #[.int .u64 (x:Int),.int .u64 (t:Int),.int .u64 0,.int .u64 0],.int .u64 (x:Int)] w fun e w' =>
   e=.returned (.agg #[.int .u64 (r0:Int),.int .u64 (r1:Int),.int .u64 (r2:Int),.int .u64 0])∧Below w.heap.size w w'):=HT
 clear hd hv hu k0 k1 k2 k3 j0 j1 j2 j3 HT ht hm hs hml hbig hr2 hsl ha hr hx
 go_enter Tryz.func137,Tryz.ntmps137
 go_wp2_with fail
 with_reducible refine (HT'.out _).mono ?_
 rintro e w1 ⟨rfl,hb1⟩
 have c1:=fun o=>cell_alloc (za5 hcr hb1) o
 have c2:=fun o=>cell_alloc (za5 hca hb1) o
 have hb1s:gr<w1.heap.size:=World.block_lt_of_cell? w1 _ (za5 hcr hb1)
 have HB1:=yh hb1
 clear hb1 HT' hcr hca
 go_wp2_with fail
 with_reducible refine (HU.out _).mono ?_
 rintro e w2 ⟨rfl,hb2⟩
 have hblk:=hb2.block w1.heap.size (by simp)
 rw [heap_alloc_new] at hblk
 have hfz:∀ j,w2.frozen? ⟨w1.heap.size,j,none⟩=false:=fun j=>by simp [World.frozen?,hblk]
 have hC:∀ j,w2.cell? ⟨w1.heap.size,j,none⟩=_:=fun j=>cell_of_row _ _ _ _ _ _ hblk
 have g0:=hC 0
 have g1:=hC 1
 have g2:=hC 2
 have g3:=hC 3
 simp at g0 g1 g2 g3
 have c3:=za5 (c1 _) hb2
 have hne:¬ gr=w1.heap.size:=fun h=>by have:=hb1s;omega
 have HB2:=yh (zaa (zae HB1.out _) hb2)
 have hge:=HB1.out.size
 clear hb2 HB1 c1 c2 hw1 hw2 hw3 hblk hC hb1s
 go_wp2_with fail
 go_loud (with_reducible refine (HA.out _).mono ?_)
 rintro e w3 ⟨rfl,hb3⟩
 have HB3:Hid (Below W.heap.size W w3):=yh (zaa ((((HB2.out.setCell (p:=⟨w1.heap.size,0,none⟩) hge _).setCell (p:=⟨w1.heap.size,1,none⟩) hge _).setCell (p:=⟨w1.heap.size,2,none⟩) hge _).setCell (p:=⟨w1.heap.size,3,none⟩) hge _) hb3)
 clear hb3 HB2
 go_wp2_with fail
 go_ret
 exact ⟨rfl,HB3⟩
end Go.Proofs.YtkgodlcnoenmbaaGreat
namespace Go.Proofs.YtkgodlcnoenmbaaGreat
open Go.RowKit
set_option linter.unusedVariables false
set_option maxRecDepth 100000
theorem lt16 {x:Nat} (h:x<2^16):x<65536:=by have e:(2:Nat)^16=65536:=(by decide);omega
theorem lt64 {x:Nat} (h:x<2^64):x<18446744073709551616:=by have e:(2:Nat)^64=18446744073709551616:=(by decide);omega
set_option maxHeartbeats 3200000 in
theorem square_any (p:Nat) (hp:p<18446744073709551616) (w:World) :
  Calls Tryz.prog 140 #[.int .u64 (p:Int)] w fun e w'=>e=.returned (.int .u64 ((sqv false p:Nat):Int))∧Below w.heap.size w w':=by
 have hmf:∀ (fn:Fn) (first cap:Array Value) (w:World),(Instr.makeFunc fn first cap).run Tryz.prog w=.ok (.func fn first cap) w:=fun _ _ _ _=>rfl
 by_cases hlt:p<4294967296
 ·obtain ⟨x1,x2,x3⟩:=wh_spec false hlt
  have hend:sqv false p=fr false (wh false p) (p-pw false (wh false p)):=by rw [fr_rt false hlt];unfold sqv;rw [if_pos hlt]
  obtain ⟨W1,hW1⟩:∃ W1,w.alloc (.cells #[.int .u64 (p:Int)] 61)=W1:=⟨_,rfl⟩
  have cp:W1.cell? ⟨w.heap.size,0,none⟩=some (.int .u64 (p:Int)):=by rw [← hW1,cell_of_row _ _ _ _ _ _ (heap_alloc_new _ _)];rfl
  have hb01:Below w.heap.size w W1:=by rw [← hW1];exact (Below.refl _ _).alloc (Nat.le_refl _) _
  have G1:=greatest_any 16 (.inl rfl) (fun x=>decide (pw false x≤p)) 161 #[.pointer (some ⟨w.heap.size,0,none⟩)] W1 (enters_of Tryz.func161 (by kernel_rfl) rfl)
   (fun x hx W hb=>sq1_any w.heap.size p x (lt16 hx) W (za5 cp hb))
  have HG1:Hid (Calls Tryz.prog 135 #[.int .i64 16,.func (.func 161) #[] #[.pointer (some ⟨w.heap.size,0,none⟩)]] W1 fun e w'=>e=.returned (.int .u64 ((wh false p:Nat):Int))∧Below W1.heap.size W1 w'):=yh G1
  clear G1
  obtain ⟨a,ha⟩:∃ a,wh false p=a:=⟨_,rfl⟩
  rw [ha] at HG1 x1 x2 x3 hend
  obtain ⟨m,hm⟩:∃ m,pw false a=m:=⟨_,rfl⟩
  rw [hm] at x1 hend
  obtain ⟨r,hr⟩:∃ r:Nat,p-m=r:=⟨_,rfl⟩
  rw [hr] at hend
  rw [hend]
  have hrl:r<18446744073709551616:=by omega
  have hww:IntKind.u64.wrap ((a:Int)*(a:Int))=(m:Int):=by
   rw [← Int.natCast_mul,show a*a=m from hm,IntKind.wrap_u64];omega
  have hws:IntKind.u64.wrap ((p:Int)-(m:Int))=(r:Int):=by rw [IntKind.wrap_u64];omega
  have HG2:Hid (∀ (W2 W4:World) (g h:Nat),W4.cell? ⟨g,0,none⟩=some (.int .u64 (a:Int))→W4.cell? ⟨h,0,none⟩=some (.int .u64 (r:Int)) →
    Calls Tryz.prog 135 #[.int .i64 64,.func (.func 162) #[] #[.pointer (some ⟨g,0,none⟩),.pointer (some ⟨h,0,none⟩)]] W4 fun e w'=>e=.returned (.int .u64 ((fr false a r:Nat):Int))∧Below W4.heap.size W4 w'):=yh (fun W2 W4 g h cg ch =>
   greatest_any 64 (.inr rfl) (fun x=>decide (ex false a x≤r*sc false)) 162 #[.pointer (some ⟨g,0,none⟩),.pointer (some ⟨h,0,none⟩)] W4 (enters_of Tryz.func162 (by kernel_rfl) rfl)
    (fun x hx W hb=>sq2_any g h a r x x3 hrl (lt64 hx) W (za5 cg hb) (za5 ch hb)))
  generalize fr false a r=v at *
  have HB01:=yh hb01
  have htest:¬ 4294967295<(p:Int):=by omega
  clear ha hend hb01 x1 x2 x3 hm hr hrl hlt hp
  go_enter Tryz.func140,Tryz.ntmps140
  go_wp2_with fail
  go_loud (with_reducible refine HG1.out.mono ?_)
  rintro e w2 ⟨rfl,hb2⟩
  have c1:=fun o=>cell_alloc (za5 cp hb2) o
  have HB2:=yh (zaa HB01.out hb2)
  clear hb2 HB01 HG1 cp hW1
  go_wp2_with fail
  have HB4:=yh (zae (zae HB2.out (.cells #[.int .u64 (a:Int)] 61)) (.cells #[.int .u64 (r:Int)] 61))
  have HG3:=yh (HG2.out w2 _ w2.heap.size (w2.heap.size+1) (by rw [cell_of_row _ _ _ _ _ _ (heap_alloc2_old w2 (.cells #[.int .u64 (a:Int)] 61) (.cells #[.int .u64 (r:Int)] 61))];rfl) (by rw [cell_of_row _ _ _ _ _ _ (heap_alloc2_new w2 (.cells #[.int .u64 (a:Int)] 61) (.cells #[.int .u64 (r:Int)] 61))];rfl))
  clear HG2 c1
  go_loud (with_reducible refine HG3.out.mono ?_)
  rintro e w3 ⟨rfl,hb3⟩
  have HB5:=yh (zaa HB4.out hb3)
  clear hb3 HB4 HB2 HG3
  go_wp2_with fail
  go_ret
  exact ⟨rfl,HB5⟩
 ·have hz:sqv false p=0:=by unfold sqv;rw [if_neg hlt]
  rw [hz]
  have htest:4294967295<(p:Int):=by omega
  clear hz hlt hp
  go_enter Tryz.func140,Tryz.ntmps140
  go_wp2_with fail
  go_ret
  exact ⟨rfl,(Below.refl _ _).alloc (Nat.le_refl _) _⟩
set_option maxHeartbeats 3200000 in
theorem cube_any (p:Nat) (hp:p<18446744073709551616) (w:World) :
  Calls Tryz.prog 100 #[.int .u64 (p:Int)] w fun e w'=>e=.returned (.int .u64 ((sqv true p:Nat):Int))∧Below w.heap.size w w':=by
 have hmf:∀ (fn:Fn) (first cap:Array Value) (w:World),(Instr.makeFunc fn first cap).run Tryz.prog w=.ok (.func fn first cap) w:=fun _ _ _ _=>rfl
 by_cases hlt:p<4294967296
 ·obtain ⟨x1,x2,x3⟩:=wh_spec true hlt
  have hend:sqv true p=fr true (wh true p) (p-pw true (wh true p)):=by rw [fr_rt true hlt];unfold sqv;rw [if_pos hlt]
  obtain ⟨W1,hW1⟩:∃ W1,w.alloc (.cells #[.int .u64 (p:Int)] 61)=W1:=⟨_,rfl⟩
  have cp:W1.cell? ⟨w.heap.size,0,none⟩=some (.int .u64 (p:Int)):=by rw [← hW1,cell_of_row _ _ _ _ _ _ (heap_alloc_new _ _)];rfl
  have hb01:Below w.heap.size w W1:=by rw [← hW1];exact (Below.refl _ _).alloc (Nat.le_refl _) _
  have G1:=greatest_any 16 (.inl rfl) (fun x=>decide (pw true x≤p)) 136 #[.pointer (some ⟨w.heap.size,0,none⟩)] W1 (enters_of Tryz.func136 (by kernel_rfl) rfl)
   (fun x hx W hb=>cu1_any w.heap.size p x (lt16 hx) W (za5 cp hb))
  have HG1:Hid (Calls Tryz.prog 135 #[.int .i64 16,.func (.func 136) #[] #[.pointer (some ⟨w.heap.size,0,none⟩)]] W1 fun e w'=>e=.returned (.int .u64 ((wh true p:Nat):Int))∧Below W1.heap.size W1 w'):=yh G1
  clear G1
  obtain ⟨a,ha⟩:∃ a,wh true p=a:=⟨_,rfl⟩
  rw [ha] at HG1 x1 x2 x3 hend
  obtain ⟨m,hm⟩:∃ m,pw true a=m:=⟨_,rfl⟩
  rw [hm] at x1 hend
  obtain ⟨r,hr⟩:∃ r:Nat,p-m=r:=⟨_,rfl⟩
  rw [hr] at hend
  rw [hend]
  have hrl:r<18446744073709551616:=by omega
  obtain ⟨q,hq⟩:∃ q,a*a=q:=⟨_,rfl⟩
  have hql:q≤65535*65535:=by rw [← hq];exact Nat.mul_le_mul (by omega) (by omega)
  have hww:IntKind.u64.wrap ((a:Int)*(a:Int))=(q:Int):=by
   rw [← Int.natCast_mul,hq,IntKind.wrap_u64];omega
  have hw3:IntKind.u64.wrap ((q:Int)*(a:Int))=(m:Int):=by
   rw [← Int.natCast_mul,← hq,show a*a*a=m from hm,IntKind.wrap_u64];omega
  clear hq hql
  have hws:IntKind.u64.wrap ((p:Int)-(m:Int))=(r:Int):=by rw [IntKind.wrap_u64];omega
  have HG2:Hid (∀ (W2 W4:World) (g h:Nat),W4.cell? ⟨g,0,none⟩=some (.int .u64 (a:Int))→W4.cell? ⟨h,0,none⟩=some (.int .u64 (r:Int)) →
    Calls Tryz.prog 135 #[.int .i64 64,.func (.func 137) #[] #[.pointer (some ⟨g,0,none⟩),.pointer (some ⟨h,0,none⟩)]] W4 fun e w'=>e=.returned (.int .u64 ((fr true a r:Nat):Int))∧Below W4.heap.size W4 w'):=yh (fun W2 W4 g h cg ch =>
   greatest_any 64 (.inr rfl) (fun x=>decide (ex true a x≤r*sc true)) 137 #[.pointer (some ⟨g,0,none⟩),.pointer (some ⟨h,0,none⟩)] W4 (enters_of Tryz.func137 (by kernel_rfl) rfl)
    (fun x hx W hb=>cu2_any g h a r x x3 hrl (lt64 hx) W (za5 cg hb) (za5 ch hb)))
  generalize fr true a r=v at *
  have HB01:=yh hb01
  have htest:¬ 4294967295<(p:Int):=by omega
  clear ha hend hb01 x1 x2 x3 hm hr hrl hlt hp
  go_enter Tryz.func100,Tryz.ntmps100
  go_wp2_with fail
  go_loud (with_reducible refine HG1.out.mono ?_)
  rintro e w2 ⟨rfl,hb2⟩
  have c1:=fun o=>cell_alloc (za5 cp hb2) o
  have HB2:=yh (zaa HB01.out hb2)
  clear hb2 HB01 HG1 cp hW1
  go_wp2_with fail
  have HB4:=yh (zae (zae HB2.out (.cells #[.int .u64 (a:Int)] 61)) (.cells #[.int .u64 (r:Int)] 61))
  have HG3:=yh (HG2.out w2 _ w2.heap.size (w2.heap.size+1) (by rw [cell_of_row _ _ _ _ _ _ (heap_alloc2_old w2 (.cells #[.int .u64 (a:Int)] 61) (.cells #[.int .u64 (r:Int)] 61))];rfl) (by rw [cell_of_row _ _ _ _ _ _ (heap_alloc2_new w2 (.cells #[.int .u64 (a:Int)] 61) (.cells #[.int .u64 (r:Int)] 61))];rfl))
  clear HG2 c1
  go_loud (with_reducible refine HG3.out.mono ?_)
  rintro e w3 ⟨rfl,hb3⟩
  have HB5:=yh (zaa HB4.out hb3)
  clear hb3 HB4 HB2 HG3
  go_wp2_with fail
  go_ret
  exact ⟨rfl,HB5⟩
 ·have hz:sqv true p=0:=by unfold sqv;rw [if_neg hlt]
  rw [hz]
  have htest:4294967295<(p:Int):=by omega
  clear hz hlt hp
  go_enter Tryz.func100,Tryz.ntmps100
  go_wp2_with fail
  go_ret
  exact ⟨rfl,(Below.refl _ _).alloc (Nat.le_refl _) _⟩
end Go.Proofs.YtkgodlcnoenmbaaGreat
namespace Go.Proofs.YtkgodlcnoenmbaaGreat
open Go.RowKit
set_option linter.unusedVariables false
set_option maxRecDepth 100000
set_option maxHeartbeats 1600000 in
theorem divisible_any (x:Nat) (A:Option Addr) (l:List Nat) (c:Nat) (w:World) (h:Us w A l) (hl:l.length≤2147483648) (hq:∀ q ∈ l,0<q) :
  Calls Tryz.prog 134 #[.int .u64 (x:Int),.slice A l.length c] w fun e w'=>e=.returned (.bool (l.any fun q=>decide (x % q=0)))∧w'=w:=by
 obtain ⟨v,hv⟩:∃ v,(l.any fun q=>decide (x % q=0))=v:=⟨_,rfl⟩
 rw [hv]
 have HV:=yh hv
 clear hv
 go_enter Tryz.func134,Tryz.ntmps134
 go_wp2
 go_loop [9] (fun i=>∃ k:Nat,k≤l.length∧i=.int .i64 k∧Hid ((l.take k).any (fun q=>decide (x % q=0))=false)) (fun i=>l.length-(intOf i).toNat)
 case atStart=>exact ⟨0,by omega,rfl,yh rfl⟩
 case round =>
  obtain ⟨k,hk,rfl,hn⟩:=hrel
  by_cases hlt:k<l.length
  ·obtain ⟨bb,oo,rfl,hc⟩:=h.at_ hlt
   obtain ⟨y,hy⟩:∃ y,l.getD k 0=y:=⟨_,rfl⟩
   rw [hy] at hc
   have hyk:l[k]=y:=by rw [← hy];simp [List.getD,hlt]
   have hy0:0<y:=by rw [← hyk];exact hq _ (List.getElem_mem hlt)
   have hs:(l.take (k+1)).any (fun q=>decide (x % q=0))=decide (x % y=0):=by
    rw [List.take_succ_eq_append_getElem hlt,List.any_append,hn.out,hyk];simp
   by_cases hd:x % y=0
   ·have hend:Hid (v=true):=yh (by
     rw [← HV.out,List.any_eq_true];exact ⟨l[k],List.getElem_mem hlt,by rw [hyk];simpa using hd⟩)
    have hd':(x:Int) % (y:Int)=0:=by omega
    clear hs hn hyk hy hq h hd
    go_wp2
    go_ret
    exact ⟨by rw [hend.out];rfl,rfl⟩
   ·have hs':Hid ((l.take (k+1)).any (fun q=>decide (x % q=0))=false):=yh (by rw [hs];simpa using hd)
    have hd':((x:Int) % (y:Int) == 0)=false:=by simp;omega
    clear hs hn hyk hy hd
    go_wp2
    go_round
    case rel=>exact ⟨k+1,by omega,by go_num,hs'⟩
    case measure=>simp [intOf];omega
  ·obtain rfl:k=l.length:=by omega
   have hend:Hid (v=false):=yh (by rw [← HV.out,← hn.out,List.take_length])
   clear hn
   go_wp2
   go_ret
   exact ⟨by rw [hend.out];rfl,rfl⟩
theorem info64:(Tryz.prog.info? 61).map (fun i=>(i.zero,i.size,i.bytes))=some (some (.int .u64 0),1,8):=by kernel_rfl
theorem make_cap64 (k:Nat) (hk:k≤2147483648) (u:World):(Instr.makeSlice 128 (.int .i64 0) (.int .i64 (k:Int))).run Tryz.prog u =
   .ok (.slice (some ⟨u.heap.size,0,none⟩) 0 k) (u.alloc (.cells (madeCells #[.int .u64 0] k) 61)):=by
 obtain ⟨i0,hi,hz0,hz1,hz2⟩:=info_parts info64
 have h:=run_make (P:=Tryz.prog) u 128 61 i0 (.int .u64 0) Tryz.underlying128 hi hz0 .i64 .i64 0 (k:Int) (by omega) (by omega) (by rw [hz2];omega) (by omega)
 simpa [hz1,Value.cells] using h
theorem cap_made64 (w:World) (k:Nat) (hk:k≤2147483648):Uo 61 (w.alloc (.cells (madeCells #[.int .u64 0] k) 61)) w.heap.size (.slice (some ⟨w.heap.size,0,none⟩) 0 k) [] :=
 ⟨by simp,.inr ⟨w.heap.size,k,_,rfl,Nat.le_refl _,heap_alloc_new _ _,Nat.zero_le _,by unfold maxLen;omega,by simp [size_madeCells],by simp⟩⟩
theorem us_lit1 (w:World) (E:TypeId) (x:Nat):Us (w.alloc (.cells #[.int .u64 (x:Int)] E)) (some ⟨w.heap.size,0,none⟩) [x]:=fun _ =>
 ⟨_,_,rfl,fun j hj=>by
  have:j=0:=by simpa using hj
  subst this
  have:=heap_alloc_new w (.cells #[.int .u64 (x:Int)] E)
  rw [cell_of_row _ _ _ _ _ _ this]
  simp⟩
def clampN (n:Int):Nat:=(max 0 (min n 100)).toNat
theorem Uo.fresh {E:TypeId} {w:World} {base:Nat} {v:Value} {l:List Nat} (h:Uo E w base v l):∀ k,v.ownBlock=some k→base≤k:=by
 intro k hk
 rcases h.2 with ⟨rfl,_⟩ | ⟨g,cap,cur,rfl,hb,_⟩
 ·simp [Value.ownBlock] at hk
 ·simp [Value.ownBlock] at hk
  omega
def NIs (n:Nat) (w:World) (s:Value) (w':World):Prop:=s=.int .i64 (n:Int)∧w'=w
set_option maxHeartbeats 3200000 in
theorem primes_any (n:Int) (h1:-9223372036854775808≤n) (h2:n≤9223372036854775807) (w:World) :
  Calls Tryz.prog 99 #[.int .i64 n] w fun e w'=>∃ v,e=.returned v∧Uo 61 w' w.heap.size v (P100.take (clampN n))∧Below w.heap.size w w':=by
 obtain ⟨K,hK⟩:∃ K,clampN n=K:=⟨_,rfl⟩
 have hK2:K≤100:=by rw [← hK];unfold clampN;omega
 rw [hK]
 have hKn:Hid (max 0 (min n 100)=(K:Int)):=yh (by rw [← hK];unfold clampN;omega)
 clear hK
 have mk:=fun u=>make_cap64 K (by omega) u
 go_enter Tryz.func99,Tryz.ntmps99
 go_upto_region 1 with fail
 go_cut [0] (NIs K w)
 case first =>
  go_wp2_with fail
  all_goals go_meet
  all_goals
   refine ⟨?_,rfl⟩
   have h0:=hKn.out
   congr 1
   omega
 case rest =>
  obtain ⟨rfl,rfl⟩:=hcut
  have HU0:=yh (cap_made64 wc K (by omega))
  have HB0:Hid (Below wc.heap.size wc (wc.alloc (.cells (madeCells #[.int .u64 0] K) 61))):=yh ((Below.refl _ _).alloc (Nat.le_refl _) _)
  go_wp2_with fail
  go_loopw [3,4] (fun sl x wr=>∃ (y:Nat) (A:Option Addr) (c:Nat) (l:List Nat),Hid (2≤y)∧y≤542∧x=.int .u64 (y:Int)∧Hid (l=pl y)∧l.length≤K∧sl=.slice A l.length c∧Hid (Uo 61 wr wc.heap.size (.slice A l.length c) l)∧Hid (Below wc.heap.size wc wr)) (fun _ x _=>543-(intOf x).toNat)
  case atStart=>exact ⟨2,_,_,[],yh (by omega),by omega,rfl,yh (by rw [pl_two]),by simp,rfl,HU0,HB0⟩
  case round =>
   obtain ⟨y,A,c,l,hy2,hy,rfl,hl,hlK,rfl,Hown,Hbel⟩:=hrel
   clear HU0 HB0 mk hKn
   by_cases hlt:l.length<K
   ·have hy1:y<542:=by
     rcases Nat.lt_or_ge y 542 with g | g
     ·exact g
     ·have e:y=542:=by omega
      have:=hl.out
      rw [e,pl_all] at this
      rw [this,P100_len] at hlt
      omega
    have HD:Hid (Calls Tryz.prog 134 #[.int .u64 (y:Int),.slice A l.length c] wr fun e w'=>e=.returned (.bool (!isP y))∧wr=w'):=yh (by
     have:=divisible_any y A l c wr Hown.out.bs (by omega) (fun q hq=>by rw [hl.out] at hq;have:=(mem_pl.1 hq).2.1;omega)
     rw [isP_any hy2.out,Bool.not_not]
     rw [hl.out] at this ⊢
     exact this.mono fun e w' h=>⟨h.1,h.2.symm⟩)
    by_cases hp:isP y=true
    ·rw [hp] at HD
     have hl2:Hid (l++[y]=pl (y+1)):=yh (by rw [pl_succ y hy2.out,if_pos hp,hl.out])
     have HU1:Hid (Us (wr.alloc (.cells #[.int .u64 (y:Int)] 61)) (some ⟨wr.heap.size,0,none⟩) [y]):=yh (us_lit1 wr _ y)
     have HO1:Hid (Uo 61 (wr.alloc (.cells #[.int .u64 (y:Int)] 61)) wc.heap.size (.slice A l.length c) l):=yh (Hown.out.below ((Below.refl _ _).alloc (Nat.le_refl _) _))
     have hz:wc.heap.size≤wr.heap.size:=Hbel.out.size
     have HY2:Hid (2≤y+1):=yh (by have:=hy2.out;omega)
     clear hp hl hy2
     go_wp2_with (first
      | (go_at_call 134;refine HD.out.mono ?_;rintro e w' ⟨rfl,rfl⟩)
      | (at_builtin;refine wpList_append_us rfl (.tmp 20) (.tmp 22) 128 rfl wc.heap.size 61 Tryz.underlying128 info64 (.slice A l.length c) l rfl HO1.out (some ⟨wr.heap.size,0,none⟩) [y] 1 1 rfl rfl HU1.out (by simp;omega) (by simp;omega) ?_))
     intro v5 w5 ho5 hgr5
     obtain ⟨A5,c5,rfl,-,-⟩:=ho5.form
     have B5:Hid (Below wc.heap.size wc w5):=yh ((Hbel.out.alloc hz _).grown hgr5 (by simp;omega) Hown.out.fresh)
     have hl5:(l++[y]).length=l.length+1:=by simp
     have HO5:=yh ho5
     clear ho5 hgr5 HD HU1 HO1 Hown Hbel
     go_wp2_with fail
     go_roundw
     case rel=>exact ⟨y+1,A5,c5,l++[y],HY2,by omega,by go_num,hl2,by omega,by first | rfl | rw [hl5],HO5,B5⟩
     case measure=>simp [intOf];omega
    ·have hp':isP y=false:=by simpa using hp
     rw [hp'] at HD
     have hl2:Hid (l=pl (y+1)):=yh (by rw [pl_succ y hy2.out,if_neg hp,hl.out])
     have HY2:Hid (2≤y+1):=yh (by have:=hy2.out;omega)
     clear hp hp' hl hy2
     go_wp2_with (go_at_call 134;refine HD.out.mono ?_;rintro e w' ⟨rfl,rfl⟩)
     clear HD
     go_roundw
     case rel=>exact ⟨y+1,A,c,l,HY2,by omega,by go_num,hl2,hlK,rfl,Hown,Hbel⟩
     case measure=>simp [intOf];omega
   ·obtain rfl:K=l.length:=by omega
    have HF:Hid (l=P100.take l.length):=yh (by have:=pl_take hy;rw [← hl.out] at this;exact this)
    clear hl hy2
    go_wp2
    go_ret
    exact ⟨_,rfl,by rw [← HF.out];exact Hown.out,Hbel.out⟩
end Go.Proofs.YtkgodlcnoenmbaaGreat
namespace Go.Proofs.YtkgodlcnoenmbaaGreat
open Go.RowKit
set_option linter.unusedVariables false
set_option maxRecDepth 100000
set_option maxHeartbeats 6400000
def vs (f:Nat→Nat):Nat→Nat
 | 0=>0
 | n+1=>vs f n+f n*65536^n
def dg (l:List Nat) (j:Nat):Nat:=l.getD j 0
def vl (l:List Nat):Nat:=vs (dg l) l.length
theorem dg_set {l:List Nat} {k j x:Nat} (hk:k<l.length):dg (l.set k x) j=if j=k then x else dg l j:=by
 unfold dg
 by_cases h:j=k
 ·subst h;simp [List.getD,hk]
 ·rw [if_neg h];simp only [List.getD];rw [List.getElem?_set_ne (fun e=>h e.symm)]
theorem dg_rep (n j:Nat):dg (List.replicate n 0) j=0:=by
 unfold dg
 simp only [List.getD,List.getElem?_replicate]
 split <;> rfl
def Dig (l:List Nat):Prop:=∀ j,dg l j<65536
theorem Dig.set_ {l:List Nat} (h:Dig l) {k x:Nat} (hx:x<65536):Dig (l.set k x):=by
 intro j
 by_cases hk:k<l.length
 ·rw [dg_set hk];split
  ·exact hx
  ·exact h j
 ·rw [List.set_eq_of_length_le (by omega)];exact h j
theorem Dig.rep (n:Nat):Dig (List.replicate n 0):=fun j=>by rw [dg_rep];omega
structure Mid (a b o:List Nat) (i k c:Nat):Prop where
 len:o.length=a.length+b.length
 dig:Dig o
 high:∀ j,i+b.length≤j→dg o j=0
 car:c<65536
 sum:vl o+c*65536^(i+k)=vs (dg a) i*vl b+dg a i*vs (dg b) k*65536^i
structure Row (a b o:List Nat) (i:Nat):Prop where
 len:o.length=a.length+b.length
 dig:Dig o
 high:∀ j,i+b.length≤j→dg o j=0
 sum:vl o=vs (dg a) i*vl b
theorem Row.mid {a b o:List Nat} {i:Nat} (h:Row a b o i):Mid a b o i 0 0 :=
 ⟨h.len,h.dig,h.high,by omega,by rw [h.sum];simp [vs]⟩
theorem dg_append (l m:List Nat) (j:Nat):dg (l++m) j=if j<l.length then dg l j else dg m (j-l.length):=by
 unfold dg
 simp only [List.getD]
 rw [List.getElem?_append]
 split <;> rfl
theorem Dig.append {l m:List Nat} (hl:Dig l) (hm:Dig m):Dig (l++m):=by
 intro j
 rw [dg_append]
 split
 ·exact hl j
 ·exact hm _
theorem Dig.two {x y:Nat} (hx:x<65536) (hy:y<65536):Dig [x,y]:=by
 intro k
 rcases k with _ | _ | k
 ·exact hx
 ·exact hy
 ·simp [dg,List.getD]
end Go.Proofs.YtkgodlcnoenmbaaGreat
namespace Go.Proofs.YtkgodlcnoenmbaaGreat
open Go.RowKit
set_option linter.unusedVariables false
set_option maxRecDepth 100000
def tabU (f:Nat→Nat) (n k:Nat):Array Value:=((List.range n).map fun i=>Value.int .u64 (((if i<k then f i else 0:Nat)):Int)).toArray
theorem za0 (f:Nat→Nat) (n k:Nat):(tabU f n k).size=n:=by simp [tabU]
theorem tabU_get (f:Nat→Nat) (n k i:Nat) (h:i<n):(tabU f n k)[i]?=some (.int .u64 (((if i<k then f i else 0:Nat)):Int)):=by
 simp [tabU,h]
theorem tabU_step (f:Nat→Nat) (n k:Nat) (h:k<n):(tabU f n k).setIfInBounds k (.int .u64 ((f k:Nat):Int))=tabU f n (k+1):=by
 apply Array.ext
 ·simp [za0]
 ·intro i h1 h2
  have hi:i<n:=by simpa [za0] using h1
  have e1:=tabU_get f n (k+1) i hi
  rw [Array.getElem?_eq_getElem h2] at e1
  injection e1 with e1
  rw [e1,Array.getElem_setIfInBounds (by simpa [za0] using hi)]
  by_cases e:k=i
  ·subst e;simp
  ·rw [if_neg e]
   have e2:=tabU_get f n k i hi
   rw [Array.getElem?_eq_getElem (by simpa [za0] using hi)] at e2
   injection e2 with e2
   rw [e2]
   by_cases g:i<k
   ·rw [if_pos g,if_pos (by omega)]
   ·rw [if_neg g,if_neg (by omega)]
theorem tabU_one (f:Nat→Nat) (n k:Nat):(tabU f n k).all (·.oneCell')=true:=by
 simp [tabU,Value.oneCell']
theorem tabU_zero (f:Nat→Nat) (n:Nat):tabU f n 0=(List.replicate n (Value.int .u64 0)).toArray:=by
 unfold tabU
 congr 1
 apply List.ext_getElem (by simp)
 intro i h1 h2
 simp
theorem zero_tab (T:TypeId) (f:Nat→Nat) (n:Nat) (h:(Tryz.prog.info? T).map (fun i=>(i.zero,i.size))=some (some (.agg (tabU f n 0)),n)) (u:World):(zeroValue T).run Tryz.prog u=.ok (.agg (tabU f n 0)) u:=by
 cases hi:Tryz.prog.info? T with
 | none=>rw [hi] at h;cases h
 | some i =>
  rw [hi] at h
  simp at h
  simp [zeroValue,typeInfo,hi,h.1]
theorem P100_take {n:Nat} (h:n≤100):(P100.take n).length=n:=by rw [List.length_take,P100_len];omega
theorem P100_getD_lt {k n:Nat} (h:k<n) (hn:n≤100):(P100.take n).getD k 0<542:=by
 have hk:k<(P100.take n).length:=by rw [P100_take hn];exact h
 have e:(P100.take n).getD k 0=(P100.take n)[k]:=by simp [List.getD,List.getElem?_eq_getElem hk]
 rw [e]
 exact P100_lt _ (List.mem_of_mem_take (List.getElem_mem hk))
def PrimesOwn (w:World) (K:Nat) (e:Ending) (w':World):Prop :=
 ∃ A c,e=.returned (.slice A K c)∧Uo 61 w' w.heap.size (.slice A K c) (P100.take K)∧Below w.heap.size w w'
theorem primes_own {w w':World} {e:Ending} {n:Int} {K:Nat} (hK:clampN n=K) (h:∃ v,e=.returned v∧Uo 61 w' w.heap.size v (P100.take (clampN n))∧Below w.heap.size w w'):PrimesOwn w K e w':=by
 obtain ⟨v,rfl,ho,hb⟩:=h
 have hl:(P100.take K).length=K:=P100_take (by rw [← hK];unfold clampN;omega)
 rw [hK] at ho
 obtain ⟨A,c,rfl,hu,-⟩:=ho.form
 rw [hl] at ho
 exact ⟨A,c,by rw [hl],ho,hb⟩
def fB (i:Nat):Nat:=sqv false (P100.getD i 0)
def fR (i:Nat):Nat:=sqv true (P100.getD i 0)
set_option maxHeartbeats 1600000 in
theorem begin_any (w:World) :
  Calls Tryz.prog 101 #[] w fun e w'=>e=.returned (.agg (tabU fB 8 8))∧Below w.heap.size w w':=by
 have hz:=fun u=>zero_tab 87 fB 8 (by rw [tabU_zero];kernel_rfl) u
 obtain ⟨t0,ht0⟩:∃ t0,tabU fB 8 0=t0:=⟨_,rfl⟩
 rw [ht0] at hz
 have HT0:=yh ht0
 have HP:Hid (∀ W:World,Calls Tryz.prog 99 #[.int .i64 8] W (PrimesOwn W 8)):=yh (fun W=>(primes_any 8 (by omega) (by omega) W).mono fun e w' h=>primes_own (by decide) h)
 have HQ:Hid (∀ (W:World) (p:Nat),p<542→Calls Tryz.prog 140 #[.int .u64 (p:Int)] W fun e w'=>e=.returned (.int .u64 ((sqv false p:Nat):Int))∧Below W.heap.size W w'):=yh (fun W p hp=>square_any p (by omega) W)
 clear ht0
 go_enter Tryz.func101,Tryz.ntmps101
 go_wp2_with fail
 with_reducible refine (HP.out _).mono ?_
 rintro e w1 ⟨A,c,rfl,ho1,hb1⟩
 obtain ⟨g,hg⟩:∃ g,w.heap.size=g:=⟨_,rfl⟩
 have hr1:w1.heap[g+1]?=some (.cells t0 87 (0,0)):=by rw [hb1.block (g+1) (by simp;omega),← hg];exact heap_alloc2_new _ _ _
 have hr0:w1.heap[g]?=some (.cells t0 87 (0,0)):=by rw [hb1.block g (by simp;omega),← hg];exact heap_alloc2_old _ _ _
 have hbw:Below w.heap.size w w1:=zaa (zae (zae (Below.refl _ w) _) _) hb1
 rw [← HT0.out] at hr1 hr0
 have HR1:=yh hr1
 have HR0:=yh hr0
 have HO:=yh (ho1.low (base':=g+2) (by simp;omega))
 have HB:=yh hbw
 clear hr1 hr0 hbw ho1 hb1 HT0 hz HP
 rw [hg] at HB
 go_wp2_with fail
 go_loopw [6] (fun iv wr=>∃ k:Nat,k≤8∧iv=.int .i64 (k:Int)∧Hid (wr.heap[g+1]?=some (.cells (tabU fB 8 k) 87 (0,0)))∧Hid (wr.heap[g]?=some (.cells (tabU fB 8 0) 87 (0,0))) ∧
   Hid (Uo 61 wr (g+2) (.slice A 8 c) (P100.take 8))∧Hid (Below g w wr)) (fun iv _=>8-(intOf iv).toNat)
 case atStart=>exact ⟨0,by omega,rfl,HR1,HR0,HO,HB⟩
 case round =>
  clear HR1 HR0 HO HB
  obtain ⟨k,hk,rfl,HR1,HR0,HO,HB⟩:=hrel
  by_cases hlt:k<8
  ·obtain ⟨bb,oo,rfl,hc⟩:=HO.out.bs.at_ (k:=k) (by rw [P100_take (by omega)];exact hlt)
   obtain ⟨p,hp⟩:∃ p,(P100.take 8).getD k 0=p:=⟨_,rfl⟩
   rw [hp] at hc
   have hpk:P100.getD k 0=p:=by rw [← hp];simp [List.getD,hlt]
   have hpl:p<542:=by rw [← hp];exact P100_getD_lt hlt (by omega)
   have HQk:=yh (fun W:World=>HQ.out W p hpl)
   have HF:Hid (sqv false p=fB k):=yh (by show _=sqv false (P100.getD k 0);rw [hpk])
   obtain ⟨v,hv⟩:∃ v,sqv false p=v:=⟨_,rfl⟩
   rw [hv] at HF
   have HQv:Hid (∀ W:World,Calls Tryz.prog 140 #[.int .u64 (p:Int)] W fun e w'=>e=.returned (.int .u64 (v:Int))∧Below W.heap.size W w'):=by rw [← hv];exact HQk
   clear hp hpk hpl hv HQk hg
   go_wp2_with fail
   with_reducible refine (HQv.out _).mono ?_
   rintro e w2 ⟨rfl,hb2⟩
   have hlt1:g+1<wr.heap.size:=(Array.getElem?_eq_some_iff.1 HR1.out).1
   have hr1:=hb2.block (g+1) hlt1
   rw [HR1.out] at hr1
   have hr0:=hb2.block g (by omega)
   rw [HR0.out] at hr0
   have hc1:w2.cell? ⟨g+1,k,none⟩=some (.int .u64 ((0:Nat):Int)):=by
    rw [cell_of_row _ _ _ _ _ _ hr1,tabU_get _ _ _ _ hlt,if_neg (by omega)]
   have hfz:w2.frozen? ⟨g+1,k,none⟩=false:=by simp [World.frozen?,hr1]
   have HR1':Hid ((w2.setCell ⟨g+1,k,none⟩ (.int .u64 (v:Int))).heap[g+1]?=some (.cells (tabU fB 8 (k+1)) 87 (0,0))):=yh (by
    rw [setCell_eq_setRow _ _ _ _ _ _ _ hr1,HF.out,tabU_step _ _ _ hlt]
    exact setRow_heap _ _ _ _ _ _ hr1)
   have HR0':Hid ((w2.setCell ⟨g+1,k,none⟩ (.int .u64 (v:Int))).heap[g]?=some (.cells (tabU fB 8 0) 87 (0,0))):=yh (by
    rw [setCell_eq_setRow _ _ _ _ _ _ _ hr1,setRow_other _ _ _ _ (by omega)]
    exact hr0)
   have HO':Hid (Uo 61 (w2.setCell ⟨g+1,k,none⟩ (.int .u64 (v:Int))) (g+2) (.slice (some ⟨bb,oo,none⟩) 8 c) (P100.take 8)):=yh (ownsRow_setCell_below (HO.out.below hb2) (show g+1<g+2 by omega) _)
   have HB':Hid (Below g w (w2.setCell ⟨g+1,k,none⟩ (.int .u64 (v:Int)))):=yh ((HB.out.trans (hb2.mono (by omega))).setCell (p:=⟨g+1,k,none⟩) (by show g≤g+1;omega) _)
   clear hr1 hr0 hb2 HR1 HR0 HO HB HF
   simp only [Int.ofNat_zero] at hc1
   go_wp2_with fail
   go_roundw
   case rel=>exact ⟨k+1,by omega,by go_num,HR1',HR0',HO',HB'⟩
   case measure=>simp [intOf];omega
  ·obtain rfl:k=8:=by omega
   have h1:=HR1.out
   have h0:=HR0.out
   have s1:(Tryz.prog.info? 87).map (·.size)=some (tabU fB 8 8).size:=by rw [za0];kernel_rfl
   have s0:(tabU fB 8 0).size=(tabU fB 8 8).size:=by rw [za0,za0]
   have o1:=tabU_one fB 8 8
   obtain ⟨t1,ht1⟩:∃ t1,tabU fB 8 8=t1:=⟨_,rfl⟩
   obtain ⟨tz,htz⟩:∃ tz,tabU fB 8 0=tz:=⟨_,rfl⟩
   rw [ht1] at h1 s1 s0 o1
   rw [htz] at h0 s0
   have hb:Below w.heap.size w (wr.setRow g t1):=by
    rw [hg]
    exact ⟨HB.out.os,HB.out.tape,HB.out.output,by have:=HB.out.size;simpa using this,fun j hj=>by rw [setRow_other _ _ _ _ (by omega)];exact HB.out.block j hj⟩
   have HH:=yh hb
   have HT1:=yh ht1
   clear hb ht1 htz HR1 HR0 HO HB HQ
   go_wp2_with (first
    | (refine yi h1 Tryz.underlying87 s1 ?_)
    | (refine yj t1 h0 s1 s0 o1 ?_))
   (try simp only [Exit.inBlock,Exit.then])
   refine bodyPost_ret (results_cell_row rfl _ _ g _ t1 _ _ rfl (setRow_heap wr _ _ _ _ _ h0) Tryz.underlying87 rfl s1) rfl ?_
   exact ⟨by rw [HT1.out],HH⟩
set_option maxHeartbeats 1600000 in
theorem rounds_any (w:World) :
  Calls Tryz.prog 47 #[] w fun e w'=>e=.returned (.agg (tabU fR 80 80))∧Below w.heap.size w w':=by
 have hz:=fun u=>zero_tab 80 fR 80 (by rw [tabU_zero];kernel_rfl) u
 obtain ⟨t0,ht0⟩:∃ t0,tabU fR 80 0=t0:=⟨_,rfl⟩
 rw [ht0] at hz
 have HT0:=yh ht0
 have HP:Hid (∀ W:World,Calls Tryz.prog 99 #[.int .i64 80] W (PrimesOwn W 80)):=yh (fun W=>(primes_any 80 (by omega) (by omega) W).mono fun e w' h=>primes_own (by decide) h)
 have HQ:Hid (∀ (W:World) (p:Nat),p<542→Calls Tryz.prog 100 #[.int .u64 (p:Int)] W fun e w'=>e=.returned (.int .u64 ((sqv true p:Nat):Int))∧Below W.heap.size W w'):=yh (fun W p hp=>cube_any p (by omega) W)
 clear ht0
 go_enter Tryz.func47,Tryz.ntmps47
 go_wp2_with fail
 with_reducible refine (HP.out _).mono ?_
 rintro e w1 ⟨A,c,rfl,ho1,hb1⟩
 obtain ⟨g,hg⟩:∃ g,w.heap.size=g:=⟨_,rfl⟩
 have hr1:w1.heap[g+1]?=some (.cells t0 80 (0,0)):=by rw [hb1.block (g+1) (by simp;omega),← hg];exact heap_alloc2_new _ _ _
 have hr0:w1.heap[g]?=some (.cells t0 80 (0,0)):=by rw [hb1.block g (by simp;omega),← hg];exact heap_alloc2_old _ _ _
 have hbw:Below w.heap.size w w1:=zaa (zae (zae (Below.refl _ w) _) _) hb1
 rw [← HT0.out] at hr1 hr0
 have HR1:=yh hr1
 have HR0:=yh hr0
 have HO:=yh (ho1.low (base':=g+2) (by simp;omega))
 have HB:=yh hbw
 clear hr1 hr0 hbw ho1 hb1 HT0 hz HP
 rw [hg] at HB
 go_wp2_with fail
 go_loopw [6] (fun iv wr=>∃ k:Nat,k≤80∧iv=.int .i64 (k:Int)∧Hid (wr.heap[g+1]?=some (.cells (tabU fR 80 k) 80 (0,0)))∧Hid (wr.heap[g]?=some (.cells (tabU fR 80 0) 80 (0,0))) ∧
   Hid (Uo 61 wr (g+2) (.slice A 80 c) (P100.take 80))∧Hid (Below g w wr)) (fun iv _=>80-(intOf iv).toNat)
 case atStart=>exact ⟨0,by omega,rfl,HR1,HR0,HO,HB⟩
 case round =>
  clear HR1 HR0 HO HB
  obtain ⟨k,hk,rfl,HR1,HR0,HO,HB⟩:=hrel
  by_cases hlt:k<80
  ·obtain ⟨bb,oo,rfl,hc⟩:=HO.out.bs.at_ (k:=k) (by rw [P100_take (by omega)];exact hlt)
   obtain ⟨p,hp⟩:∃ p,(P100.take 80).getD k 0=p:=⟨_,rfl⟩
   rw [hp] at hc
   have hpk:P100.getD k 0=p:=by rw [← hp];simp [List.getD,hlt]
   have hpl:p<542:=by rw [← hp];exact P100_getD_lt hlt (by omega)
   have HQk:=yh (fun W:World=>HQ.out W p hpl)
   have HF:Hid (sqv true p=fR k):=yh (by show _=sqv true (P100.getD k 0);rw [hpk])
   obtain ⟨v,hv⟩:∃ v,sqv true p=v:=⟨_,rfl⟩
   rw [hv] at HF
   have HQv:Hid (∀ W:World,Calls Tryz.prog 100 #[.int .u64 (p:Int)] W fun e w'=>e=.returned (.int .u64 (v:Int))∧Below W.heap.size W w'):=by rw [← hv];exact HQk
   clear hp hpk hpl hv HQk hg
   go_wp2_with fail
   with_reducible refine (HQv.out _).mono ?_
   rintro e w2 ⟨rfl,hb2⟩
   have hlt1:g+1<wr.heap.size:=(Array.getElem?_eq_some_iff.1 HR1.out).1
   have hr1:=hb2.block (g+1) hlt1
   rw [HR1.out] at hr1
   have hr0:=hb2.block g (by omega)
   rw [HR0.out] at hr0
   have hc1:w2.cell? ⟨g+1,k,none⟩=some (.int .u64 ((0:Nat):Int)):=by
    rw [cell_of_row _ _ _ _ _ _ hr1,tabU_get _ _ _ _ hlt,if_neg (by omega)]
   have hfz:w2.frozen? ⟨g+1,k,none⟩=false:=by simp [World.frozen?,hr1]
   have HR1':Hid ((w2.setCell ⟨g+1,k,none⟩ (.int .u64 (v:Int))).heap[g+1]?=some (.cells (tabU fR 80 (k+1)) 80 (0,0))):=yh (by
    rw [setCell_eq_setRow _ _ _ _ _ _ _ hr1,HF.out,tabU_step _ _ _ hlt]
    exact setRow_heap _ _ _ _ _ _ hr1)
   have HR0':Hid ((w2.setCell ⟨g+1,k,none⟩ (.int .u64 (v:Int))).heap[g]?=some (.cells (tabU fR 80 0) 80 (0,0))):=yh (by
    rw [setCell_eq_setRow _ _ _ _ _ _ _ hr1,setRow_other _ _ _ _ (by omega)]
    exact hr0)
   have HO':Hid (Uo 61 (w2.setCell ⟨g+1,k,none⟩ (.int .u64 (v:Int))) (g+2) (.slice (some ⟨bb,oo,none⟩) 80 c) (P100.take 80)):=yh (ownsRow_setCell_below (HO.out.below hb2) (show g+1<g+2 by omega) _)
   have HB':Hid (Below g w (w2.setCell ⟨g+1,k,none⟩ (.int .u64 (v:Int)))):=yh ((HB.out.trans (hb2.mono (by omega))).setCell (p:=⟨g+1,k,none⟩) (by show g≤g+1;omega) _)
   clear hr1 hr0 hb2 HR1 HR0 HO HB HF
   simp only [Int.ofNat_zero] at hc1
   go_wp2_with fail
   go_roundw
   case rel=>exact ⟨k+1,by omega,by go_num,HR1',HR0',HO',HB'⟩
   case measure=>simp [intOf];omega
  ·obtain rfl:k=80:=by omega
   have h1:=HR1.out
   have h0:=HR0.out
   have s1:(Tryz.prog.info? 80).map (·.size)=some (tabU fR 80 80).size:=by rw [za0];kernel_rfl
   have s0:(tabU fR 80 0).size=(tabU fR 80 80).size:=by rw [za0,za0]
   have o1:=tabU_one fR 80 80
   obtain ⟨t1,ht1⟩:∃ t1,tabU fR 80 80=t1:=⟨_,rfl⟩
   obtain ⟨tz,htz⟩:∃ tz,tabU fR 80 0=tz:=⟨_,rfl⟩
   rw [ht1] at h1 s1 s0 o1
   rw [htz] at h0 s0
   have hb:Below w.heap.size w (wr.setRow g t1):=by
    rw [hg]
    exact ⟨HB.out.os,HB.out.tape,HB.out.output,by have:=HB.out.size;simpa using this,fun j hj=>by rw [setRow_other _ _ _ _ (by omega)];exact HB.out.block j hj⟩
   have HH:=yh hb
   have HT1:=yh ht1
   clear hb ht1 htz HR1 HR0 HO HB HQ
   go_wp2_with (first
    | (refine yi h1 Tryz.underlying80 s1 ?_)
    | (refine yj t1 h0 s1 s0 o1 ?_))
   (try simp only [Exit.inBlock,Exit.then])
   refine bodyPost_ret (results_cell_row rfl _ _ g _ t1 _ _ rfl (setRow_heap wr _ _ _ _ _ h0) Tryz.underlying80 rfl s1) rfl ?_
   exact ⟨by rw [HT1.out],HH⟩
end Go.Proofs.YtkgodlcnoenmbaaGreat
namespace Go.Proofs.YtkgodlcnoenmbaaGreat
open Go.RowKit
set_option linter.unusedVariables false
set_option maxRecDepth 100000
def tabL (l:List Nat):Array Value:=(l.map fun (x:Nat)=>Value.int .u64 (x:Int)).toArray
theorem tabL_tabU (f:Nat→Nat) (n:Nat) (l:List Nat) (hl:l.length=n) (h:∀ i,i<n→f i=l.getD i 0):tabL l=tabU f n n:=by
 subst hl
 unfold tabL tabU
 congr 1
 apply List.ext_getElem (by simp)
 intro i h1 h2
 have hi:i<l.length:=by simpa using h1
 have e:f i=l[i]:=by rw [h i hi];simp [List.getD,List.getElem?_eq_getElem hi]
 simp [hi,e]
def okRoot (c:Bool) (p y v:Nat):Bool:=Nat.blt p 4294967296&&Nat.ble (pw c y) (p*sc c)&&Nat.blt (p*sc c) (pw c (y+1))&&Nat.beq (y % 18446744073709551616) v
theorem okRoot_is {c:Bool} {p y v:Nat} (h:okRoot c p y v=true):sqv c p=v:=by
 simp only [okRoot,Bool.and_eq_true] at h
 obtain ⟨⟨⟨h1,h2⟩,h3⟩,h4⟩:=h
 have k1:p<4294967296:=by simp [Nat.blt,Nat.ble_eq] at h1;omega
 have k2:pw c y≤p*sc c:=by simpa [Nat.ble_eq] using h2
 have k3:p*sc c<pw c (y+1):=by simp [Nat.blt,Nat.ble_eq] at h3;omega
 have k4:=Nat.eq_of_beq_eq_true h4
 unfold sqv
 rw [if_pos k1,rt_eq c k1 k2 k3,k4]
def yB:List Nat:=[26087635650665564424,31950697969885030203,41248173712355948587,48805497317890012913,61180928696206656209,66510681623121259551,76057874264641092971,80407493254657745273]
def yR:List Nat:=[23241441160490167842,26604808713878332877,31543488660544240431,35287351959220771772,41025191555757552952,43374469216020582425,47431773444313272219,49223322299838333208,52460086356995146306,56674242196778545086,57948244932766773900,61468643694135456994,63608380943893236079,64626287408284341937,66571091106846937653,69291241975837173396,71813108563482594002,72615556083564357091,74922338351982630325,76384605279477341285,77095200552867529333,79152035218479047811,80466001307761769428,82360010132597855157,84757271453788200875,85906662539289440784,86470001012957192511,87575168524888248036,88117443448470540226,89182409882623190821,92723033081372705391,93686458245878541936,95095488024300105724,95556006044611561766,97794660939065469677,98230277650290947039,99514478923103560670,100766364611844223656,101583977345534766822,102786266195516601659,103961068102722061156,104346826991781163009,106234157551817627537,106603670640207904304,107335108066752287256,107697117917222381840,109819772810290077738,111863398698143437240,112528278492720320712,112857792170093030227,113511107980111571865,114477206417490790568,114795642568024087139,116361942610802215627,117281838038729876339,118187525164200278179,119079540232616391420,119373928427484032864,120248493880617511794,120824543361758411244,121110519679094562344,122520547622920568297,124441674862916172053,124979807718728684331,125247145020423037340,125778422408467759623,127603441353585912606,128369846764518166904,129627222056361226170,129875788766833580198,130370087684295691694,131104582549941012251,132071287192121802116,132787134709014930579,133495346155087314620,133963344184962190668,134659270149180113590,135576127461610847786,136029942151059536620,136928597060811708439]
def vB:List Nat:=[7640891576956012808,13503953896175478587,4354685564936845355,11912009170470909681,5840696475078001361,11170449401992604703,2270897969802886507,6620516959819538809]
def vR:List Nat:=[4794697086780616226,8158064640168781261,13096744586834688815,16840607885511220156,4131703408338449720,6480981068601479193,10538285296894168987,12329834152419229976,15566598209576043074,1334009975649890238,2608012711638119052,6128411473006802146,8268148722764581231,9286055187155687089,11230858885718282805,13951009754708518548,16472876342353939154,17275323862435702243,1135362057144423861,2597628984639134821,3308224258029322869,5365058923640841347,6679025012923562964,8573033837759648693,10970295158949994411,12119686244451234320,12683024718118986047,13788192230050041572,14330467153632333762,15395433587784984357,489312712824947311,1452737877330783856,2861767655752347644,3322285676063803686,5560940570517711597,5996557281743188959,7280758554555802590,8532644243296465576,9350256976987008742,10552545826968843579,11727347734174303076,12113106623233404929,14000437183269869457,14369950271660146224,15101387698204529176,15463397548674623760,17586052441742319658,1182934255886127544,1847814050463011016,2177327727835720531,2830643537854262169,3796741975233480872,4115178125766777443,5681478168544905931,6601373596472566643,7507060721942968483,8399075790359081724,8693463985226723168,9568029438360202098,10144078919501101548,10430055236837252648,11840083180663258601,13761210420658862357,14299343276471374635,14566680578165727644,15097957966210449927,16922976911328602910,17689382322260857208,500013540394364858,748580250866718886,1242879168328830382,1977374033974150939,2944078676154940804,3659926193048069267,4368137639120453308,4836135668995329356,5532061633213252278,6448918945643986474,6902733635092675308,7801388544844847127]
theorem okB:(List.range 8).all (fun i=>okRoot false (P100.getD i 0) (yB.getD i 0) (vB.getD i 0))=true:=by decide +kernel
theorem okR:(List.range 80).all (fun i=>okRoot true (P100.getD i 0) (yR.getD i 0) (vR.getD i 0))=true:=by decide +kernel
theorem fB_is (i:Nat) (h:i<8):fB i=vB.getD i 0:=okRoot_is (List.all_eq_true.1 okB i (List.mem_range.2 h))
theorem fR_is (i:Nat) (h:i<80):fR i=vR.getD i 0:=okRoot_is (List.all_eq_true.1 okR i (List.mem_range.2 h))
theorem tabB:tabL vB=tabU fB 8 8:=tabL_tabU fB 8 vB rfl fB_is
theorem tabR:tabL vR=tabU fR 80 80:=tabL_tabU fR 80 vR rfl fR_is
theorem zaS {P:Program} {ops:Array Oper} {rest:List Oper} {o:Oper} {a:Act} {w:World} {Q:Exit→Act→World→Prop} (hgd:o.guard=none) (v:Value)
  (hrun:(execOp (Act.eval a) o).run P w=.ok (.value v) w) (h:wpList P ops Q rest (a.put o.dst v) w):wpList P ops Q (o :: rest) a w:=by
 refine wpList_plain hgd fun K hK=>?_
 unfold Oper.wp
 rw [hrun]
 exact hK _ _ h
set_option maxHeartbeats 1600000 in
theorem rbegin_any (w:World) :
  Calls Tryz.prog 62 #[] w fun e w'=>e=.returned (.agg (tabU fB 8 8))∧Below w.heap.size w w':=by
 have hz:=fun u=>zero_tab 87 fB 8 (by rw [tabU_zero];kernel_rfl) u
 have s1:(Tryz.prog.info? 87).map (·.size)=some (tabU fB 8 8).size:=by rw [za0];kernel_rfl
 have s0:(tabU fB 8 0).size=(tabU fB 8 8).size:=by rw [za0,za0]
 have o1:=tabU_one fB 8 8
 obtain ⟨t0,ht0⟩:∃ t0,tabU fB 8 0=t0:=⟨_,rfl⟩
 rw [ht0] at hz s0
 rw [← tabB] at s1 s0 o1 ⊢
 obtain ⟨t1,ht1⟩:∃ t1,tabL vB=t1:=⟨_,rfl⟩
 rw [ht1] at s1 s0 o1
 have HT1:=yh ht1
 rw [HT1.out]
 have h0:=heap_alloc_new w (.cells t0 87)
 have HH:Hid (Below w.heap.size w ((w.alloc (.cells t0 87)).setRow w.heap.size t1)):=yh (by
  have hb:=zae (Below.refl w.heap.size w) (.cells t0 87)
  exact ⟨hb.os,hb.tape,hb.output,by simp,fun j hj=>by rw [setRow_other _ _ _ _ (by omega)];exact hb.block j hj⟩)
 clear ht0 ht1
 go_enter Tryz.func62,Tryz.ntmps62
 go_wp2_with (first
  | (refine zaS (o:=⟨some 1,_,_,_,_,_⟩) rfl (.agg t1) ?_ ?_;· rw [← HT1.out];kernel_rfl)
  | (refine yj t1 h0 s1 s0 o1 ?_))
 (try simp only [Exit.inBlock,Exit.then])
 refine bodyPost_ret (results_cell_row rfl _ _ w.heap.size _ t1 _ _ rfl (setRow_heap _ _ _ _ _ _ h0) Tryz.underlying87 rfl s1) rfl ?_
 exact ⟨rfl,HH⟩
set_option maxHeartbeats 1600000 in
theorem rrounds_any (w:World) :
  Calls Tryz.prog 152 #[] w fun e w'=>e=.returned (.agg (tabU fR 80 80))∧Below w.heap.size w w':=by
 have hz:=fun u=>zero_tab 80 fR 80 (by rw [tabU_zero];kernel_rfl) u
 have s1:(Tryz.prog.info? 80).map (·.size)=some (tabU fR 80 80).size:=by rw [za0];kernel_rfl
 have s0:(tabU fR 80 0).size=(tabU fR 80 80).size:=by rw [za0,za0]
 have o1:=tabU_one fR 80 80
 obtain ⟨t0,ht0⟩:∃ t0,tabU fR 80 0=t0:=⟨_,rfl⟩
 rw [ht0] at hz s0
 rw [← tabR] at s1 s0 o1 ⊢
 obtain ⟨t1,ht1⟩:∃ t1,tabL vR=t1:=⟨_,rfl⟩
 rw [ht1] at s1 s0 o1
 have HT1:=yh ht1
 rw [HT1.out]
 have h0:=heap_alloc_new w (.cells t0 80)
 have HH:Hid (Below w.heap.size w ((w.alloc (.cells t0 80)).setRow w.heap.size t1)):=yh (by
  have hb:=zae (Below.refl w.heap.size w) (.cells t0 80)
  exact ⟨hb.os,hb.tape,hb.output,by simp,fun j hj=>by rw [setRow_other _ _ _ _ (by omega)];exact hb.block j hj⟩)
 clear ht0 ht1
 go_enter Tryz.func152,Tryz.ntmps152
 go_wp2_with (first
  | (refine zaS (o:=⟨some 1,_,_,_,_,_⟩) rfl (.agg t1) ?_ ?_;· rw [← HT1.out];kernel_rfl)
  | (refine yj t1 h0 s1 s0 o1 ?_))
 (try simp only [Exit.inBlock,Exit.then])
 refine bodyPost_ret (results_cell_row rfl _ _ w.heap.size _ t1 _ _ rfl (setRow_heap _ _ _ _ _ _ h0) Tryz.underlying80 rfl s1) rfl ?_
 exact ⟨rfl,HH⟩
end Go.Proofs.YtkgodlcnoenmbaaGreat
