/-
  A part of what the proof of EdVerifies rests on: plain lemmas and contracts of the functions that it calls. No conditions but what each theorem states.
-/
import Derived.Test.YtkgodlcnoenmbaaGreatEdVerifiesK3
import Derived.OpenShut
import Derived.StillTailTactics
import Derived.Laws.BitsAllLaws
import Derived.Laws.CopyOwn
import Derived.Deep.MidRow
namespace Go.Proofs.YtkgodlcnoenmbaaGreat
open Go.RowKit
set_option linter.unusedVariables false
set_option maxRecDepth 100000
set_option maxHeartbeats 6400000
theorem row_bs {W:World} {g:Nat} {l:List UInt8} {t:TypeId} (h:W.heap[g]?=some (.cells (arrB l) t (0,0))):Bs W (some ⟨g,0,none⟩) l:=fun _=>⟨g,0,rfl,fun j hj=>by rw [Nat.zero_add,cell_of_row _ _ _ _ _ _ h,zaE _ _ hj]⟩
theorem row_bs_from {W:World} {g k:Nat} {l:List UInt8} {t:TypeId} (h:W.heap[g]?=some (.cells (arrB l) t (0,0))):Bs W (some ⟨g,k,none⟩) (l.drop k):=fun _=>⟨g,k,rfl,fun j hj=>by
 rw [List.length_drop] at hj
 rw [cell_of_row _ _ _ _ _ _ h,zaE _ _ (by omega)]
 simp only [List.getD,List.getElem?_drop]⟩
theorem wp_append_bs {P:Program} {ops:Array Oper} {o:Oper} {a:Act} {w:World} {K:Act→World→Prop} {Q:Exit→Act→World→Prop} (hgd:o.guard=none) (s x:Operand) (t:TypeId)
  (ho:o.op=.call { callee:=.builtin .append,args:=#[s,x],argTypes:=#[t,t] }) (base:Nat) (e:TypeId) (ht:P.underlying t=some (.slice e))
  (he:(P.info? e).map (fun i=>(i.zero,i.size,i.bytes))=some (some (.int .u8 0),1,1))
  (v:Value) (l:List UInt8) (hs:a.eval s=v) (hown:Ob e w base v l) (A:Option Addr) (m:List UInt8) (n c:Nat) (hx:a.eval x=.slice A n c) (hn:n=m.length) (hm:Bs w A m)
  (hlen:l.length+m.length≤140737488355328) (hbase:base≤w.heap.size)
  (h:∀ v' w',Ob e w' base v' (l++m)→w.grownBy w' v.ownBlock→K (a.put o.dst v') w'):Oper.wp P o a w K Q:=by
 have:=step_append_bs (P:=P) (ops:=ops) (K:=K) (Q:=Q) (E:=False) hgd s x t ho base e ht he v l hs hown A m n c hx hn hm hlen hbase h
 rwa [if_pos (by simp [Region.wanted,hgd])] at this
def zer64:Array Value:=arrB (List.replicate 64 0)
theorem zby (u:World):(zeroValue 24).run Tryz.prog u=.ok (.agg zer64) u:=zbp 24 zer64 64 (by kernel_rfl) u
theorem za7 {l:List UInt8} (h:l.length=64):(Tryz.prog.info? 24).map (·.size)=some (arrB l).size:=by rw [zar,h];kernel_rfl
theorem zer64_size {l:List UInt8} (h:l.length=64):zer64.size=(arrB l).size:=by unfold zer64;rw [zar,zar,h];simp
theorem digest_lenE (l:List UInt8):(zbg l).length=64:=bytesS_len _
def cpB (h:List UInt8) (k:Nat):List UInt8:=h.take k++List.replicate (32-k) 0
theorem cpB_len {h:List UInt8} (hl:32≤h.length) {k:Nat} (hk:k≤32):(cpB h k).length=32:=by unfold cpB;simp;omega
theorem cpB_set {h:List UInt8} (hl:32≤h.length) {k:Nat} (hk:k<32):(cpB h k).set k (h.getD k 0)=cpB h (k+1):=by
 unfold cpB
 rw [List.set_append,if_neg (by simp;omega),List.length_take,Nat.min_eq_left (by omega),Nat.sub_self,show 32-k=(32-(k+1))+1 by omega,List.replicate_succ,List.set_cons_zero,List.take_succ_eq_append_getElem (by omega),List.append_assoc]
 simp [List.getD,List.getElem?_eq_getElem (show k<h.length by omega)]
theorem cpB_end (h:List UInt8):cpB h 32=h.take 32:=by simp [cpB]
theorem cpB_zero (h:List UInt8):arrB (cpB h 0)=zai:=by simp [cpB,zai]
theorem take_getE (h:List UInt8) {i:Nat} (hi:i<32):(h.take 32).getD i 0=h.getD i 0:=by simp [List.getD,hi]
structure PtB (R:Array Value→PtD→Prop):Prop where
 info:∀ {c p},R c p→(Tryz.prog.info? 65).map (·.size)=some c.size
 one:∀ {c p},R c p→c.all (·.oneCell')=true
 zero:∃ Z,(∀ u,(zeroValue 65).run Tryz.prog u=.ok (.agg Z) u)∧∀ {c p},R c p→Z.size=c.size
abbrev PtZeroC (R:Array Value→PtD→Prop):Prop:=∀ W:World,Calls Tryz.prog 129 #[] W (RetPt R W pzero)
abbrev PtBaseC (R:Array Value→PtD→Prop):Prop:=∀ W:World,Calls Tryz.prog 91 #[] W (RetPt R W F25519.base)
abbrev PtDecodeC (R:Array Value→PtD→Prop):Prop:=∀ (l:List UInt8),l.length=32→∀ W:World,Calls Tryz.prog 35 #[.agg (arrB l)] W (RetPtB R W (decP l) (decF l))
abbrev PtEncodeC (R:Array Value→PtD→Prop):Prop:=∀ {c p},R c p→∀ W:World,Calls Tryz.prog 39 #[.agg c] W (RetV W (.agg (bytT (F25519.encN p))))
abbrev PtDoubleC (R:Array Value→PtD→Prop):Prop:=∀ {c p},R c p→∀ W:World,Calls Tryz.prog 130 #[.agg c] W (RetPt R W (padd p p))
abbrev PtAddC (R:Array Value→PtD→Prop):Prop:=∀ {c p d q},R c p→R d q→∀ W:World,Calls Tryz.prog 131 #[.agg c,.agg d] W (RetPt R W (padd p q))
abbrev PtNegC (R:Array Value→PtD→Prop):Prop:=∀ {c p},R c p→∀ W:World,Calls Tryz.prog 38 #[.agg c] W (RetPt R W (Ed.Pt.neg p))
structure PtM (R:Array Value→PtD→Prop):Prop where
 base:PtB R
 zero:PtZeroC R
 basep:PtBaseC R
 double:PtDoubleC R
 add:PtAddC R
theorem rq_z {c:Array Value} {p:PtD} (h:RQ c p):(refP 0 0 0 0).size=c.size:=rq_size h
theorem pz_add (p:PtD):padd pzero p=p:=Ed.Pt.zero_add (hf:=F25519.full) p
theorem padd_z (p:PtD):padd p pzero=p:=Ed.Pt.add_zero (hf:=F25519.full) p
theorem padd_comm (p q:PtD):padd p q=padd q p:=Ed.Pt.add_comm (hf:=F25519.full) p q
theorem padd_assoc (p q r:PtD):padd (padd p q) r=padd p (padd q r):=Ed.Pt.add_assoc (hf:=F25519.full) p q r
def dblP:Nat→PtD→PtD
 | 0,p=>p
 | k+1,p=>padd (dblP k p) (dblP k p)
theorem RowsW.new2 {W:World} {L:List RowT} (h:RowsW W L) (z cs y ds:Array Value) (t s:TypeId):RowsW ((((W.alloc (.cells z t)).alloc (.cells y s)).setRow W.heap.size cs).setRow (W.heap.size+1) ds) ((W.heap.size+1,ds,s) :: (W.heap.size,cs,t) :: L):=by
 have a0:(W.alloc (.cells z t)).heap[W.heap.size]?=some (.cells z t (0,0)):=heap_alloc_new _ _
 have a1:((W.alloc (.cells z t)).alloc (.cells y s)).heap[W.heap.size]?=some (.cells z t (0,0)):=by
  have hb:=((Below.refl (W.alloc (.cells z t)).heap.size (W.alloc (.cells z t))).alloc (Nat.le_refl _) (.cells y s)).block W.heap.size (by rw [World.size_alloc];omega)
  rw [hb];exact a0
 have b1:((W.alloc (.cells z t)).alloc (.cells y s)).heap[W.heap.size+1]?=some (.cells y s (0,0)):=by
  have:=heap_alloc_new (W.alloc (.cells z t)) (.cells y s)
  rwa [World.size_alloc] at this
 have a2:=setRow_heap _ _ _ cs _ _ a1
 have b2:(((W.alloc (.cells z t)).alloc (.cells y s)).setRow W.heap.size cs).heap[W.heap.size+1]?=some (.cells y s (0,0)):=by rw [setRow_other _ _ _ _ (by omega)];exact b1
 refine ⟨setRow_heap _ _ _ _ _ _ b2,by rw [setRow_other _ _ _ _ (by omega)];exact a2,h.below ?_⟩
 exact zab (zab (((Below.refl _ W).alloc (Nat.le_refl _) _).alloc (by rw [World.size_alloc];omega) _) (Nat.le_refl _)) (by omega)
theorem below_new2 {w W:World} (h:Below w.heap.size w W) (z cs y ds:Array Value) (t s:TypeId):Below w.heap.size w ((((W.alloc (.cells z t)).alloc (.cells y s)).setRow W.heap.size cs).setRow (W.heap.size+1) ds):=by
 have hs:=h.size
 exact zab (zab ((h.alloc hs _).alloc (by rw [World.size_alloc];omega) _) hs) (by omega)
theorem heap_new2a (W:World) (z y:Array Value) (t s:TypeId):((W.alloc (.cells z t)).alloc (.cells y s)).heap[W.heap.size]?=some (.cells z t (0,0)):=by
 have hb:=((Below.refl (W.alloc (.cells z t)).heap.size (W.alloc (.cells z t))).alloc (Nat.le_refl _) (.cells y s)).block W.heap.size (by rw [World.size_alloc];omega)
 rw [hb];exact heap_alloc_new _ _
theorem heap_new2b (W:World) (z y cs:Array Value) (t s:TypeId):(((W.alloc (.cells z t)).alloc (.cells y s)).setRow W.heap.size cs).heap[W.heap.size+1]?=some (.cells y s (0,0)):=by
 rw [setRow_other _ _ _ _ (by omega)]
 have:=heap_alloc_new (W.alloc (.cells z t)) (.cells y s)
 rwa [World.size_alloc] at this
theorem results_2c {P:Program} {fn:Func} {p q:Tmp} {ty tz:TypeId} (h:fn.results=#[.cell p ty,.cell q tz]) (tmps:Array Value) (w:World) (g k:Nat) (t s:TypeId) (cs ds:Array Value) (fr fs:Nat × Nat) (d e:TypeDesc)
  (hp:tmps.getD p undef=.pointer (some ⟨g,0,none⟩)) (hq:tmps.getD q undef=.pointer (some ⟨k,0,none⟩)) (hg:w.heap[g]?=some (.cells cs t fr)) (hk:w.heap[k]?=some (.cells ds s fs))
  (hu:P.underlying ty=some d) (hd:(match d with | .struct _ | .array _ _=>true | _=>false)=true) (hi:(P.info? ty).map (·.size)=some cs.size)
  (hv:P.underlying tz=some e) (he:(match e with | .struct _ | .array _ _=>true | _=>false)=true) (hj:(P.info? tz).map (·.size)=some ds.size) :
  (results fn tmps).run P w=.ok (.tuple #[.agg cs,.agg ds]) w:=by
 have hp':tmps[p]?.getD undef=.pointer (some ⟨g,0,none⟩):=by simpa using hp
 have hq':tmps[q]?.getD undef=.pointer (some ⟨k,0,none⟩):=by simpa using hq
 simp [results,h,hp',hq',asAddr,run_loadVar_row w g t ty cs fr d hg hu hd hi,run_loadVar_row w k s tz ds fs e hk hv he hj]
theorem rplusdd_any {c d:Array Value} {p q:PtD} (h:RQ c p) (k:RQ d q) (w:World):Calls Tryz.prog 70 #[.agg c,.agg d,.agg (refT ((edN+edN) % PP))] w (RetPt RQ w (padd p q)):=by
 obtain ⟨X,Y,Z,T,rfl,hc⟩:=h
 obtain ⟨X',Y',Z',T',rfl,kc⟩:=k
 exact rplusN hc kc w
theorem rzeroQ (w:World):Calls Tryz.prog 69 #[] w (RetPt RQ w pzero):=(rzeroN w).mono (by rintro e w' ⟨rfl,hb⟩;exact ⟨_,rfl,⟨_,_,_,_,rfl,co_zero⟩,hb⟩)
theorem rmult_any {l:List UInt8} (hl:l.length=32) {c:Array Value} {p:PtD} (hp:RQ c p) (w:World):Calls Tryz.prog 32 #[.agg (arrB l),.agg c] w (RetPt RQ w (pmul (leN l) p)):=by
 have HL:=yh hl
 have HRP:=yh hp
 clear hl hp
 obtain ⟨E,hE⟩:∃ E,leN l=E:=⟨_,rfl⟩
 have hE0:E/2^(256-0)=0:=by
  have:=leN_lt l
  rw [HL.out,hE] at this
  exact Nat.div_eq_of_lt (by rw [show (2:Nat)^(256-0)=256^32 by decide];exact this)
 have HP0:Hid (pmul (E/2^(256-0)) p=pzero):=yh (by rw [hE0];exact pmul_zero p)
 rw [hE]
 have HE:=yh hE
 clear hE hE0
 have hzR:=za6
 have hz32:=zao
 have hzP:=zbd
 have HR0:=yh ((((RowsW.nil w).box (arrB l) 22).box c 58).box (refP 0 0 0 0) 58)
 have HB0:=yh (zaf (zaf (zaf (Below.refl w.heap.size w) (arrB l) 22) c 58) (refP 0 0 0 0) 58)
 rw [World.size_alloc] at HR0
 rw [World.size_alloc] at HR0
 go_enter Tryz.func32,Tryz.ntmps32
 go_wp2_with fail
 obtain ⟨W0,hW0⟩:∃ W,(((w.alloc (.cells (arrB l) 22)).alloc (.cells c 58)).alloc (.cells (refP 0 0 0 0) 58))=W:=⟨_,rfl⟩
 obtain ⟨g0,hg0⟩:∃ g,w.heap.size=g:=⟨_,rfl⟩
 rw [hW0] at HR0 HB0
 rw [hg0] at HR0
 rw [hW0,hg0]
 have HG0:=yh hg0
 clear hW0 hg0
 with_reducible refine (redgeN _).mono ?_
 rintro e vq1 ⟨rfl,hbq1⟩
 have HRq1:=yh (HR0.out.below hbq1)
 have HBq1:=yh (zaa HB0.out hbq1)
 clear hbq1
 go_wp2_with fail
 with_reducible refine (redgeN _).mono ?_
 rintro e vq2 ⟨rfl,hbq2⟩
 have HRq2:=yh (HRq1.out.below hbq2)
 have HBq2:=yh (zaa HBq1.out hbq2)
 clear hbq2
 go_wp2_with fail
 with_reducible refine ((raddN edN_lt edN_lt) _).mono ?_
 rintro e vq3 ⟨rfl,hbq3⟩
 have HRq3:=yh (HRq2.out.below hbq3)
 have HBq3:=yh (zaa HBq2.out hbq3)
 clear hbq3
 have h0q4:(vq3.alloc (.cells (refT 0) 56)).heap[vq3.heap.size]?=some (.cells (refT 0) 56 (0,0)):=heap_alloc_new _ _
 have HRq4:=yh (HRq3.out.new (refT 0) (refT ((edN+edN) % PP)) 56)
 have HBq4:=yh (zan HBq3.out (refT 0) (refT ((edN+edN) % PP)) 56)
 have HNq4:=yh HRq3.out.ne
 have HGq4:=yh HBq3.out.size
 go_upto_region 2 with (refine yj (refT ((edN+edN) % PP)) h0q4 (zad _) (zat _ _) (zav _) ?_)
 obtain ⟨Wq4,hWq4⟩:∃ W,(vq3.alloc (.cells (refT 0) 56)).setRow vq3.heap.size (refT ((edN+edN) % PP))=W:=⟨_,rfl⟩
 obtain ⟨gq4,hgq4⟩:∃ g,vq3.heap.size=g:=⟨_,rfl⟩
 rw [hWq4,hgq4] at HRq4
 rw [hWq4] at HBq4
 rw [hgq4] at HNq4 HGq4
 rw [hWq4,hgq4]
 clear hWq4 hgq4 h0q4
 have NEq4_0:Hid (g0≠gq4):=yh (HNq4.out (g0,(arrB l),22) (by simp))
 have NEq4_1:Hid ((g0+1)≠gq4):=yh (HNq4.out ((g0+1),c,58) (by simp))
 have NEq4_2:Hid ((g0+1+1)≠gq4):=yh (HNq4.out ((g0+1+1),(refP 0 0 0 0),58) (by simp))
 go_wp2_with fail
 with_reducible refine ((fun W=>rzeroQ W) _).mono ?_
 rintro e vq5 ⟨cq5,rfl,rq5,hbq5⟩
 have Rq5:=yh rq5
 clear rq5
 have HRq5:=yh (HRq4.out.below hbq5)
 have HBq5:=yh (zaa HBq4.out hbq5)
 clear hbq5
 have h0q6:(vq5.alloc (.cells (refP 0 0 0 0) 58)).heap[vq5.heap.size]?=some (.cells (refP 0 0 0 0) 58 (0,0)):=heap_alloc_new _ _
 have HRq6:=yh (HRq5.out.new (refP 0 0 0 0) cq5 58)
 have HBq6:=yh (zan HBq5.out (refP 0 0 0 0) cq5 58)
 have HNq6:=yh HRq5.out.ne
 have HGq6:=yh HBq5.out.size
 go_upto_region 3 with (refine yj cq5 h0q6 (zbD Rq5.out) (rq_z Rq5.out) (rq_one Rq5.out) ?_)
 obtain ⟨Wq6,hWq6⟩:∃ W,(vq5.alloc (.cells (refP 0 0 0 0) 58)).setRow vq5.heap.size cq5=W:=⟨_,rfl⟩
 obtain ⟨gq6,hgq6⟩:∃ g,vq5.heap.size=g:=⟨_,rfl⟩
 rw [hWq6,hgq6] at HRq6
 rw [hWq6] at HBq6
 rw [hgq6] at HNq6 HGq6
 rw [hWq6,hgq6]
 clear hWq6 hgq6 h0q6
 have NEq6_0:Hid (g0≠gq6):=yh (HNq6.out (g0,(arrB l),22) (by simp))
 have NEq6_1:Hid ((g0+1)≠gq6):=yh (HNq6.out ((g0+1),c,58) (by simp))
 have NEq6_2:Hid ((g0+1+1)≠gq6):=yh (HNq6.out ((g0+1+1),(refP 0 0 0 0),58) (by simp))
 have NEq6_3:Hid (gq4≠gq6):=yh (HNq6.out (gq4,(refT ((edN+edN) % PP)),56) (by simp))
 go_wp2_with fail
 go_loopw [7] (fun i_ wr=>∃ k:Nat,k≤256∧i_=.int .i64 (255-(k:Int))∧∃ A,Hid (RQ A (pmul (E/2^(256-k)) p))∧Hid (RowsW wr [(gq6,A,58),(gq4,(refT ((edN+edN) % PP)),56),(g0+1+1,refP 0 0 0 0,58),(g0+1,c,58),(g0,arrB l,22)])∧Hid (Below w.heap.size w wr)) (fun i_ _=>(intOf i_+1).toNat)
 case atStart=>exact ⟨0,by omega,rfl,_,by rw [HP0.out];exact Rq5,HRq6,HBq6⟩
 case round =>
  clear HRq6 HBq6
  obtain ⟨k,hk,rfl,A,RA,HR1,HB1⟩:=hrel
  by_cases hlt:k<256
  ·obtain ⟨i,hi⟩:∃ i,255-k=i:=⟨_,rfl⟩
   have e1:255-(k:Int)=(i:Int):=by omega
   have e2:(i:Int)-1=255-((k+1:Nat):Int):=by omega
   have hi255:i<256:=by omega
   have hst:=pmul_step p E k hlt
   rw [hi] at hst
   obtain ⟨x,hx⟩:∃ x,pmul (E/2^(256-k)) p=x:=⟨_,rfl⟩
   rw [hx] at hst RA
   have HE2:=yh e2
   have hp:¬ ((i:Int)<0):=by omega
   rw [e1]
   clear hx hi e1 e2
   have l7:=HR1.out.head
   have l8:=HR1.out.head
   have l9:=HR1.out.tail.head
   go_wp2_with (first
     | (refine yi l7 Tryz.underlying58 (zbD RA.out) ?_)
     | (refine yi l8 Tryz.underlying58 (zbD RA.out) ?_)
     | (refine yi l9 Tryz.underlying56 (zad _) ?_))
   obtain ⟨p10,Hp10⟩:=yx (α:=PtD) (padd x x)
   with_reducible refine ((rplusdd_any RA.out RA.out) _).mono ?_
   rintro e vq11 ⟨cq11,rfl,rq11,hbq11⟩
   rw [Hp10.out] at rq11
   have Rq11:=yh rq11
   clear rq11
   have HRq11:=yh (HR1.out.below hbq11)
   have HBq11:=yh (zaa HB1.out hbq11)
   clear hbq11
   have lsq12:=HRq11.out.head
   have HRq12:Hid (RowsW (vq11.setRow gq6 cq11) [(gq6,cq11,58),(gq4,(refT ((edN+edN) % PP)),56),((g0+1+1),(refP 0 0 0 0),58),((g0+1),c,58),(g0,(arrB l),22)]):=yh ⟨setRow_heap _ _ _ _ _ _ lsq12,(by rw [setRow_other _ _ _ _ NEq6_3.out];exact HRq11.out.tail.head),(by rw [setRow_other _ _ _ _ NEq6_2.out];exact HRq11.out.tail.tail.head),(by rw [setRow_other _ _ _ _ NEq6_1.out];exact HRq11.out.tail.tail.tail.head),(by rw [setRow_other _ _ _ _ NEq6_0.out];exact HRq11.out.tail.tail.tail.tail.head),trivial⟩
   have HBq12:=yh (zab (g:=gq6) (cs:=cq11) HBq11.out HGq6.out)
   go_upto_region 7 with (refine yj cq11 lsq12 (zbD Rq11.out) (by have a:=(rq_z RA.out);have b:=(rq_z Rq11.out);rw [← a,← b]) (rq_one Rq11.out) ?_)
   obtain ⟨Wq12,hWq12⟩:∃ W,vq11.setRow gq6 cq11=W:=⟨_,rfl⟩
   rw [hWq12] at HRq12 HBq12
   (try rw [hWq12])
   clear hWq12 lsq12
   rw [Hp10.out] at hst
   by_cases hbit:E/2^i % 2=1
   ·have HBT:Hid (leN l/2^i % 2=1):=yh (by rw [HE.out];exact hbit)
    rw [if_pos hbit] at hst
    clear hbit
    have l13:=HRq12.out.tail.tail.tail.tail.head
    go_wp2_with (refine yi l13 Tryz.underlying22 (zah HL.out) ?_)
    have kq14:=fun W:World=>(rbit_any l HL.out i hi255) W
    rw [HBT.out] at kq14
    have Kq14:=yh kq14
    clear kq14
    with_reducible refine (Kq14.out _).mono ?_
    rintro e vq14 ⟨rfl,hbq14⟩
    have HRq14:=yh (HRq12.out.below hbq14)
    have HBq14:=yh (zaa HBq12.out hbq14)
    clear hbq14
    have HST:=yh hst
    clear hst
    have l15:=HRq14.out.head
    have l16:=HRq14.out.tail.tail.tail.head
    have l17:=HRq14.out.tail.head
    go_wp2_with (first
      | (refine yi l15 Tryz.underlying58 (zbD Rq11.out) ?_)
      | (refine yi l16 Tryz.underlying58 (zbD HRP.out) ?_)
      | (refine yi l17 Tryz.underlying56 (zad _) ?_))
    obtain ⟨p18,Hp18⟩:=yx (α:=PtD) (padd p10 p)
    with_reducible refine ((rplusdd_any Rq11.out HRP.out) _).mono ?_
    rintro e vq19 ⟨cq19,rfl,rq19,hbq19⟩
    rw [Hp18.out] at rq19
    have Rq19:=yh rq19
    clear rq19
    have HRq19:=yh (HRq14.out.below hbq19)
    have HBq19:=yh (zaa HBq14.out hbq19)
    clear hbq19
    have lsq20:=HRq19.out.head
    have HRq20:Hid (RowsW (vq19.setRow gq6 cq19) [(gq6,cq19,58),(gq4,(refT ((edN+edN) % PP)),56),((g0+1+1),(refP 0 0 0 0),58),((g0+1),c,58),(g0,(arrB l),22)]):=yh ⟨setRow_heap _ _ _ _ _ _ lsq20,(by rw [setRow_other _ _ _ _ NEq6_3.out];exact HRq19.out.tail.head),(by rw [setRow_other _ _ _ _ NEq6_2.out];exact HRq19.out.tail.tail.head),(by rw [setRow_other _ _ _ _ NEq6_1.out];exact HRq19.out.tail.tail.tail.head),(by rw [setRow_other _ _ _ _ NEq6_0.out];exact HRq19.out.tail.tail.tail.tail.head),trivial⟩
    have HBq20:=yh (zab (g:=gq6) (cs:=cq19) HBq19.out HGq6.out)
    go_wp2_with (refine yj cq19 lsq20 (zbD Rq19.out) (by have a:=(rq_z Rq11.out);have b:=(rq_z Rq19.out);rw [← a,← b]) (rq_one Rq19.out) ?_)
    obtain ⟨Wq20,hWq20⟩:∃ W,vq19.setRow gq6 cq19=W:=⟨_,rfl⟩
    rw [hWq20] at HRq20 HBq20
    (try rw [hWq20])
    clear hWq20 lsq20
    have HNX:=yh HST.out
    rw [Hp18.out] at HNX
    go_roundw
    case rel=>exact ⟨k+1,by omega,by rw [← HE2.out],_,by rw [← HNX.out];exact Rq19,HRq20,HBq20⟩
    case measure=>simp [intOf] <;> omega
   ·have ht0:E/2^i % 2=0:=by omega
    have HBT:Hid (leN l/2^i % 2=0):=yh (by rw [HE.out];exact ht0)
    rw [if_neg hbit] at hst
    have HNX:=yh hst
    clear hbit hst ht0
    have l21:=HRq12.out.tail.tail.tail.tail.head
    go_wp2_with (refine yi l21 Tryz.underlying22 (zah HL.out) ?_)
    have kq22:=fun W:World=>(rbit_any l HL.out i hi255) W
    rw [HBT.out] at kq22
    have Kq22:=yh kq22
    clear kq22
    with_reducible refine (Kq22.out _).mono ?_
    rintro e vq22 ⟨rfl,hbq22⟩
    have HRq22:=yh (HRq12.out.below hbq22)
    have HBq22:=yh (zaa HBq12.out hbq22)
    clear hbq22
    go_wp2_with fail
    go_roundw
    case rel=>exact ⟨k+1,by omega,by rw [← HE2.out],_,by rw [← HNX.out];exact Rq11,HRq22,HBq22⟩
    case measure=>simp [intOf] <;> omega
  ·obtain rfl:k=256:=by omega
   have HPE:Hid (pmul (E/2^(256-256)) p=pmul E p):=yh (by rw [Nat.sub_self,Nat.pow_zero,Nat.div_one])
   rw [HPE.out] at RA
   have hp:¬ (0:Int)≤255-((256:Nat):Int):=by omega
   have ly:=HR1.out.head
   have lsq23:=HR1.out.tail.tail.head
   have HRq23:Hid (RowsW (wr.setRow (g0+1+1) A) [(gq6,A,58),(gq4,(refT ((edN+edN) % PP)),56),((g0+1+1),A,58),((g0+1),c,58),(g0,(arrB l),22)]):=yh ⟨(by rw [setRow_other _ _ _ _ (Ne.symm NEq6_2.out)];exact HR1.out.head),(by rw [setRow_other _ _ _ _ (Ne.symm NEq4_2.out)];exact HR1.out.tail.head),setRow_heap _ _ _ _ _ _ lsq23,(by rw [setRow_other _ _ _ _ (by omega)];exact HR1.out.tail.tail.tail.head),(by rw [setRow_other _ _ _ _ (by omega)];exact HR1.out.tail.tail.tail.tail.head),trivial⟩
   have HBq23:=yh (zab (g:=(g0+1+1)) (cs:=A) HB1.out (by have:=HG0.out;omega))
   go_wp2_with (first
     | (refine yi ly Tryz.underlying58 (zbD RA.out) ?_)
     | (refine yj A lsq23 (zbD RA.out) (by have a:=(zaW 0 0 0 0 0 0 0 0);have b:=(rq_z RA.out);rw [← a,← b]) (rq_one RA.out) ?_))
   obtain ⟨Wq23,hWq23⟩:∃ W,wr.setRow (g0+1+1) A=W:=⟨_,rfl⟩
   rw [hWq23] at HRq23 HBq23
   (try rw [hWq23])
   clear hWq23 lsq23
   (try simp only [Exit.inBlock,Exit.then])
   refine bodyPost_ret (results_cell_row rfl _ _ (g0+1+1) _ A _ _ rfl HRq23.out.tail.tail.head Tryz.underlying58 rfl (zbD RA.out)) rfl ?_
   exact ⟨_,rfl,RA.out,HBq23.out⟩
end Go.Proofs.YtkgodlcnoenmbaaGreat
namespace Go.Proofs.YtkgodlcnoenmbaaGreat
open Go.RowKit Go.ChangeShapes Go.WideShapes
set_option linter.unusedVariables false
set_option maxRecDepth 100000
def byteOf:Value→UInt8
 | .int _ a=>UInt8.ofNat a.toNat
 | _=>0
theorem byteOf_int {a:Int} (h0:0≤a) (h1:a<256):bval (byteOf (.int .u8 a))=.int .u8 a:=by
 unfold byteOf bval
 congr 1
 simp
 omega
theorem bytes_of {H:Type} {enc:TypeId × Value→H} {P:Program} {W:World} {base:Nat} {spare:Nat→Bool} {held:Bool} {r:Reach} {b0:Nat} {v:Value} {d:DataW H} {p:List MemPlace} {T e:TypeId} {n:Nat}
  (hT:P.underlying T=some (.array n e)) (hU:P.underlying e=some (.int .u8)) (hc:P.cellsOf e=1) (hn:P.cellsOf T=n)
  (hv:Value.okWide P W r b0 T v) (h:DataW.Trod enc P W base spare held T v d p):∃ l:List UInt8,l.length=n∧v=.agg (arrB l):=by
 simp only [Value.okWide,hT] at hv
 obtain ⟨cs,rfl,hs,-⟩:=hv
 rw [hn] at hs
 obtain ⟨fuel,h⟩:=h
 obtain ⟨xs,m,-,-,-,hl,hel⟩:=DataW.trod_array hT h
 refine ⟨cs.toList.map byteOf,by simpa using hs,?_⟩
 congr 1
 unfold arrB
 apply Array.ext
 ·simp
 ·intro i h1 h2
  have hi:i<n:=by omega
  have hE:=hel i hi
  rw [hc,Nat.mul_one,List.getElem?_eq_getElem (by omega)] at hE
  obtain ⟨z,e1,-,hw⟩:=DataW.trod_int hU hE
  have e2:cs[i]=.int .u8 z:=by
   have h0:((cs.toList.drop i).take 1)[0]?=some (.int .u8 z):=by simp only [Value.cells] at e1;rw [e1];rfl
   have h3:cs[i]?=some (.int .u8 z):=by simpa using h0
   rw [Array.getElem?_eq_getElem h1] at h3
   injection h3
  have hb:0≤z∧z<256:=by
   simp [Lit.wf,IntKind.min,IntKind.max,IntKind.signed,IntKind.bits] at hw
   omega
  simp [e2,byteOf_int hb.1 hb.2]
end Go.Proofs.YtkgodlcnoenmbaaGreat
namespace Go.Proofs.YtkgodlcnoenmbaaGreat
open Go.RowKit
set_option linter.unusedVariables false
set_option maxRecDepth 100000
def byF (V i:Nat):UInt8:=UInt8.ofNat (V/256^i)
def byK (V k:Nat):List UInt8:=updTo (List.replicate 32 0) (byF V) k
theorem byK_len (V k:Nat):(byK V k).length=32:=by unfold byK;rw [zbC];simp
theorem byK_zero (V:Nat):byK V 0=List.replicate 32 0:=updTo_zero _ _
theorem byK_set (V k:Nat) (h:k<32):(byK V k).set k (byF V k)=byK V (k+1):=updTo_step (by simpa using h)
theorem byK_end (V k:Nat) (hV:V<256^k) (hk:k≤32):byK V k=leB 32 V:=by
 refine zbE (by rw [byK_len,zaq]) fun i hi=>?_
 rw [byK_len] at hi
 rw [leB_get _ _ _ hi]
 unfold byK
 rw [updTo_get (by simpa using hi)]
 by_cases h:i<k
 ·rw [if_pos h];rfl
 ·rw [if_neg h]
  have:V/256^i=0:=Nat.div_eq_of_lt (Nat.lt_of_lt_of_le hV (Nat.pow_le_pow_right (by decide) (by omega)))
  rw [this,List.getD_eq_getElem?_getD,List.getElem?_replicate]
  split <;> rfl
theorem byF_nat (V i:Nat):(byF V i).toNat=V/256^i % 256:=by unfold byF;simp
theorem RowsW.setN {W:World} {g k:Nat} {cs:Array Value} {t:TypeId} {v:Value}:∀ {L:List RowT} (n:Nat),RowsW W L→L[n]?=some (g,cs,t)→(L.map Prod.fst).Nodup→RowsW (W.setCell ⟨g,k,none⟩ v) (L.set n (g,cs.setIfInBounds k v,t))
 | [],n,_,hn,_=>by simp at hn
 | r :: L,0,h,hn,hd=>by
  have hr:r=(g,cs,t):=by simpa using hn
  subst hr
  simp only [List.map_cons,List.nodup_cons] at hd
  exact RowsW.set h (fun q hq e=>hd.1 (e ▸ List.mem_map.2 ⟨q,hq,rfl⟩)) k v
 | r :: L,n+1,h,hn,hd=>by
  simp only [List.map_cons,List.nodup_cons] at hd
  have hn':L[n]?=some (g,cs,t):=by simpa using hn
  have ih:=RowsW.setN (k:=k) (v:=v) n h.tail hn' hd.2
  have hm:(g,cs,t) ∈ L:=List.mem_of_getElem? hn'
  have hne:r.1≠g:=fun e=>hd.1 (e ▸ List.mem_map.2 ⟨(g,cs,t),hm,rfl⟩)
  have hg:W.heap[g]?=some (.cells cs t (0,0)):=by
   clear ih hd hne
   have h2:=h.tail
   clear h
   induction L generalizing n with
   | nil=>cases hm
   | cons a L ih =>
    rcases List.mem_cons.1 hm with rfl | hm2
    ·exact h2.1
    ·cases n with
     | zero=>simp at hn';subst hn';exact h2.1
     | succ n=>exact ih n (by simpa using hn') (by simpa using hn') hm2 h2.2
  refine ⟨?_,ih⟩
  show (W.setCell ⟨g,k,none⟩ v).heap[r.1]?=_
  rw [setCell_eq_setRow W g k _ _ _ v hg,setRow_other _ _ _ _ hne]
  exact h.1
end Go.Proofs.YtkgodlcnoenmbaaGreat
namespace Go.Proofs.YtkgodlcnoenmbaaGreat
open Go.RowKit
set_option linter.unusedVariables false
set_option maxRecDepth 100000
set_option maxHeartbeats 6400000
theorem info32 {l:List UInt8} (h:l.length=32):(Tryz.prog.info? 22).map (·.size)=some (arrB l).size:=by rw [zar,h];kernel_rfl
def ordA:Array Value:=arrB (leB 32 LL)
theorem ordA_info:(Tryz.prog.info? 22).map (·.size)=some ordA.size:=info32 (zaq _ _)
theorem ordA_one:ordA.all (·.oneCell')=true:=zax _
def zer32:Array Value:=arrB (List.replicate 32 0)
theorem zer32_size:zer32.size=32:=by unfold zer32;rw [zar];simp
theorem ordA_size:ordA.size=32:=by unfold ordA;rw [zar,zaq]
theorem zer32_zero (u:World):(zeroValue 22).run Tryz.prog u=.ok (.agg zer32) u:=by
 have h:(Tryz.prog.info? 22).map (fun i=>(i.zero,i.size))=some (some (.agg zer32),32):=by kernel_rfl
 cases hi:Tryz.prog.info? 22 with
 | none=>rw [hi] at h;cases h
 | some i =>
  rw [hi] at h
  simp at h
  simp [zeroValue,typeInfo,hi,h.1]
theorem rorder_any (W:World):Calls Tryz.prog 111 #[] W fun e w'=>e=.returned (.agg ordA)∧Below W.heap.size W w':=by
 have hz:=fun u=>zer32_zero u
 obtain ⟨z0,hz0⟩:∃ z,zer32=z:=⟨_,rfl⟩
 have sz:z0.size=ordA.size:=by rw [← hz0,zer32_size,ordA_size]
 rw [hz0] at hz
 have h0:(W.alloc (.cells z0 22)).heap[W.heap.size]?=some (.cells z0 22 (0,0)):=heap_alloc_new _ _
 have io:=ordA_info
 have oo:=ordA_one
 have HB:Hid (Below W.heap.size W ((W.alloc (.cells z0 22)).setRow W.heap.size ordA)):=yh (zab ((Below.refl _ _).alloc (Nat.le_refl _) _) (Nat.le_refl _))
 clear hz0
 go_enter Tryz.func111,Tryz.ntmps111
 go_wp2_with (first
  | (refine zaj (o:=⟨some 1,_,_,_,_,_⟩) rfl (.agg ordA) (by kernel_rfl) ?_)
  | (refine yj ordA h0 io sz oo ?_))
 (try simp only [Exit.inBlock,Exit.then])
 refine bodyPost_ret (results_cell_row rfl _ _ W.heap.size _ ordA _ _ rfl (setRow_heap _ _ _ _ _ _ h0) Tryz.underlying22 rfl io) rfl ?_
 exact ⟨rfl,HB.out⟩
theorem make_i64s (k:Nat) (hk:k≤2147483648) (u:World):(Instr.makeSlice 93 (.int .i64 (k:Int)) (.int .i64 (k:Int))).run Tryz.prog u =
   .ok (.slice (some ⟨u.heap.size,0,none⟩) k k) (u.alloc (.cells (madeCells #[.int .i64 0] k) 2)):=by
 have info:(Tryz.prog.info? 2).map (fun i=>(i.zero,i.size,i.bytes))=some (some (.int .i64 0),1,8):=by kernel_rfl
 obtain ⟨i0,hi,hz0,hz1,hz2⟩:=info_parts info
 have h:=run_make (P:=Tryz.prog) u 93 2 i0 (.int .i64 0) Tryz.underlying93 hi hz0 .i64 .i64 (k:Int) (k:Int) (by omega) (Int.le_refl _) (by rw [hz2];omega) (by omega)
 simpa [hz1,Value.cells] using h
theorem made34:madeCells #[.int .i64 0] 34=tabI (dgN 34 ((0:Nat):Int)):=by
 apply Array.toList_inj.1
 rw [toList_madeCells_one]
 rfl
theorem leN_takeS (l:List UInt8) (k:Nat) (h:k<l.length):leN (l.take (k+1))=leN (l.take k)+(l.getD k 0).toNat*256^k:=by
 have e:l.take (k+1)=l.take k++[l.getD k 0]:=by
  rw [List.take_succ_eq_append_getElem h]
  simp [List.getD,List.getElem?_eq_getElem h]
 rw [e,leN_snoc,List.length_take,Nat.min_eq_left (by omega)]
theorem leN_takeL (l:List UInt8) (k:Nat) (h:k≤l.length):leN (l.take k)<256^k:=by
 have:=leN_lt (l.take k)
 rwa [List.length_take,Nat.min_eq_left h] at this
def RetD (w:World) (l:List UInt8) (e:Ending) (w':World):Prop:=∃ g,e=.returned (.slice (some ⟨g,0,none⟩) 34 34)∧w'.heap[g]?=some (.cells (tabI (dgN 34 (leN l:Int))) 2 (0,0))∧w.heap.size≤g∧Below w.heap.size w w'
structure DgI (w wr:World) (g:Nat) (l:List UInt8) (k:Nat):Prop where
 row:wr.heap[g]?=some (.cells (tabI (dgN 34 (leN (l.take k):Int))) 2 (0,0))
 below:Below g w wr
theorem rdigits_any (A:Option Addr) (l:List UInt8) (c:Nat) (w:World) (hbs:Bs w A l) (hl:l.length≤68) :
  Calls Tryz.prog 58 #[.slice A l.length c] w (RetD w l):=by
 have HS:=yh hbs
 have HL:=yh hl
 obtain ⟨n,hn⟩:∃ n,l.length=n:=⟨_,rfl⟩
 have HN:=yh hn
 rw [hn]
 have mk:∀ u:World,(Instr.makeSlice 93 (.int .i64 34) (.int .i64 34)).run Tryz.prog u=.ok (.slice (some ⟨u.heap.size,0,none⟩) 34 34) (u.alloc (.cells (tabI (dgN 34 ((0:Nat):Int))) 2)):=fun u=>by
  have h:=make_i64s 34 (by omega) u
  rwa [made34] at h
 have HPOST:Hid (∀ g w',w'.heap[g]?=some (.cells (tabI (dgN 34 (leN l:Int))) 2 (0,0))→w.heap.size≤g→Below w.heap.size w w'→RetD w l (.returned (.slice (some ⟨g,0,none⟩) 34 34)) w'):=yh fun g w' a b c=>⟨g,rfl,a,b,c⟩
 have HI:Hid (DgI w (w.alloc (.cells (tabI (dgN 34 ((0:Nat):Int))) 2)) w.heap.size l 0):=yh ⟨heap_alloc_new _ _,(Below.refl _ _).alloc (Nat.le_refl _) _⟩
 obtain ⟨zr,hzr⟩:∃ z,tabI (dgN 34 ((0:Nat):Int))=z:=⟨_,rfl⟩
 rw [hzr] at HI
 simp only [hzr] at mk
 clear hbs hl hn hzr
 go_enter Tryz.func58,Tryz.ntmps58
 go_wp2_with fail
 obtain ⟨W1,hW1⟩:∃ W,w.alloc (.cells zr 2)=W:=⟨_,rfl⟩
 obtain ⟨g,hg⟩:∃ g,w.heap.size=g:=⟨_,rfl⟩
 rw [hW1,hg] at HI
 rw [hW1,hg]
 have HG:=yh hg
 clear hW1 hg mk
 go_loopw [4] (fun i wr=>∃ k:Nat,k≤n∧i=.int .i64 (k:Int)∧Hid (DgI w wr g l k)) (fun i _=>n-(intOf i).toNat)
 case atStart=>exact ⟨0,by omega,rfl,HI⟩
 case round =>
  clear HI
  obtain ⟨k,hk,rfl,HI⟩:=hrel
  have hn68:n≤68:=by rw [← HN.out];exact HL.out
  by_cases hlt:k<n
  ·obtain ⟨bb,oo,rfl,hc0⟩:=HS.out.at_ (k:=k) (by rw [HN.out];exact hlt)
   have hc:wr.cell? ⟨bb,oo+k,none⟩=some (.int .u8 ((l.getD k 0).toNat:Int)):=by
    have hlt:=World.block_lt_of_cell? w _ hc0
    rw [HI.out.below.cell (by rw [HG.out] at hlt;exact hlt)];exact hc0
   obtain ⟨b,hb⟩:∃ b,(l.getD k 0).toNat=b:=⟨_,rfl⟩
   have hbl:b<256:=by rw [← hb];exact (l.getD k 0).toNat_lt
   rw [hb] at hc
   obtain ⟨m,hm⟩:∃ m,leN (l.take k)=m:=⟨_,rfl⟩
   have hml:m<256^k:=by rw [← hm];exact leN_takeL l k (by rw [HN.out];omega)
   have hstep:=dg_add m b k (by omega) hml hbl
   have hnx:leN (l.take (k+1))=m+b*256^k:=by rw [leN_takeS l k (by rw [HN.out];omega),hm,hb]
   obtain ⟨d,hd⟩:∃ d,k/2=d:=⟨_,rfl⟩
   obtain ⟨r,hr⟩:∃ r,k % 2=r:=⟨_,rfl⟩
   obtain ⟨e,he⟩:∃ e,8*r=e:=⟨_,rfl⟩
   rw [hd,hr,he] at hstep
   have hd34:d<34:=by omega
   have hrow:=HI.out.row
   rw [hm] at hrow
   have cd:wr.cell? ⟨g,d,none⟩=some (.int .i64 (gI (dgN 34 (m:Int)) d)):=by rw [cell_of_row _ _ _ _ _ _ hrow,zas _ _ (by rw [zaD];exact hd34)]
   have fx:wr.frozen? ⟨g,d,none⟩=false:=by simp [World.frozen?,hrow]
   have hdb:=dgN_get 34 (m:Int) d hd34
   obtain ⟨v,hv⟩:∃ v,gI (dgN 34 (m:Int)) d=v:=⟨_,rfl⟩
   rw [hv] at hstep cd hdb
   have hp:2^e=1∨2^e=256:=by
    have:r=0∨r=1:=by omega
    rcases this with h | h <;> subst h <;> subst he <;> simp
   obtain ⟨s,hs⟩:∃ s:Nat,b*2^e=s:=⟨_,rfl⟩
   have hsl:s<65536:=by rw [← hs];rcases hp with h | h <;> rw [h] <;> omega
   rw [hs] at hstep
   have HI2:Hid (DgI w (wr.drew.setCell ⟨g,d,none⟩ (.int .i64 (v+(s:Int)))) g l (k+1)):=yh (by
    have e1:=setCell_eq_setRow wr.drew g d _ _ _ (.int .i64 (v+(s:Int))) (show wr.drew.heap[g]?=_ from hrow)
    refine ⟨?_,HI.out.below.drew.setCell (p:=⟨g,d,none⟩) (Nat.le_refl _) _⟩
    rw [hnx,hstep,← zaR,e1]
    exact setRow_heap _ _ _ _ _ _ (show wr.drew.heap[g]?=_ from hrow))
   have f6:IntKind.i64.wrap ((b:Int)*2^e)=(s:Int):=by
    rw [IntKind.wrap_i64,show (b:Int)*2^e=(s:Int) by rw [← hs,Int.natCast_mul];simp]
    omega
   have f6':(b:Int)*2^e=(s:Int):=by rw [← hs,Int.natCast_mul];simp
   have f7:IntKind.i64.wrap (v+(s:Int))=v+(s:Int):=by rw [IntKind.wrap_i64];omega
   have f1:(k:Int).tdiv 2=(d:Int):=by rw [Int.tdiv_eq_ediv_of_nonneg (by omega)];omega
   have f1':(k:Int)/2=(d:Int):=by omega
   have f2:IntKind.i64.wrap (d:Int)=(d:Int):=by rw [IntKind.wrap_i64];omega
   have f3:(k:Int).tmod 2=(r:Int):=by rw [Int.tmod_eq_emod_of_nonneg (by omega)];omega
   have f3':(k:Int) % 2=(r:Int):=by omega
   have f4:(8:Int)*(r:Int)=(e:Int):=by omega
   have f5:IntKind.i64.wrap (e:Int)=(e:Int):=by rw [IntKind.wrap_i64];omega
   have f5':IntKind.u64.wrap (e:Int)=(e:Int):=by rw [IntKind.wrap_u64];omega
   have f8:IntKind.i64.wrap (b:Int)=(b:Int):=by rw [IntKind.wrap_i64];omega
   have b1:0≤(d:Int):=by omega
   have b2:(d:Int)<34:=by omega
   have b3:0≤(e:Int):=by omega
   have b5:0≤(k:Int):=by omega
   have b6:(k:Int)<(n:Int):=by omega
   have f9:IntKind.i64.wrap (s:Int)=(s:Int):=by rw [IntKind.wrap_i64];omega
   clear HI hb hbl hm hml hstep hnx hd hr he hrow hv hp hs hc0 f6
   go_wp2_with fail
   refine wp_region_still_tail 19 (by kernel_rfl) (by kernel_rfl) ?_
   simp only [List.take_succ_cons,List.take_zero,List.drop_succ_cons,List.drop_zero]
   iterate 19 still_step
   refine wpStill_nil ?_
   go_wp2_with fail
   go_roundw
   case rel=>exact ⟨k+1,by omega,by go_num,HI2⟩
   case measure=>simp [intOf];omega
  ·have hkn:k=n:=by omega
   have hT:l.take k=l:=List.take_of_length_le (by rw [HN.out];omega)
   have hrow:=HI.out.row
   rw [hT] at hrow
   have HE:=HPOST.out g wr hrow (by rw [HG.out];exact Nat.le_refl _) (by rw [HG.out];exact HI.out.below)
   have hdk:decide (k<n)=false:=decide_eq_false hlt
   have HE2:=yh HE
   clear hkn hT hrow HE HI
   go_wp2_with fail
   go_ret
   exact HE2.out
theorem below_nx {w w1 w2:World} (h:Below w.heap.size w w1) (h2:Below w1.heap.size w1 w2):Below w.heap.size w w2:=h.trans (h2.mono h.size)
theorem below_al {w w1:World} (h:Below w.heap.size w w1) (o:Obj):Below w.heap.size w (w1.alloc o):=h.alloc h.size o
theorem bs_arr {W:World} {g:Nat} {t:TypeId} {l:List UInt8} (h:W.heap[g]?=some (.cells (arrB l) t (0,0))):Bs W (some ⟨g,0,none⟩) l:=fun _=>⟨g,0,rfl,fun j hj=>by rw [Nat.zero_add,cell_of_row _ _ _ _ _ _ h,zaE _ _ hj]⟩
theorem i64_lo16 (n:Int):bits .and .i64 n 65535=n % 65536:=by
 have h:(BitVec.ofInt 64 65535).toNat=2^16-1:=by decide
 have key:(BitVec.ofInt 64 n &&& BitVec.ofInt 64 65535).toNat=(n % ((2^64:Nat):Int)).toNat % 2^16:=by
  rw [BitVec.toNat_and,h,Nat.and_two_pow_sub_one_eq_mod,BitVec.toNat_ofInt]
 show IntKind.i64.wrap ((BitVec.ofInt 64 n &&& BitVec.ofInt 64 65535).toNat:Nat)=n % 65536
 rw [key,IntKind.wrap_i64]
 omega
theorem i64_lo8 (n:Int):bits .and .i64 n 255=n % 256:=by
 have h:(BitVec.ofInt 64 255).toNat=2^8-1:=by decide
 have key:(BitVec.ofInt 64 n &&& BitVec.ofInt 64 255).toNat=(n % ((2^64:Nat):Int)).toNat % 2^8:=by
  rw [BitVec.toNat_and,h,Nat.and_two_pow_sub_one_eq_mod,BitVec.toNat_ofInt]
 show IntKind.i64.wrap ((BitVec.ofInt 64 n &&& BitVec.ofInt 64 255).toNat:Nat)=n % 256
 rw [key,IntKind.wrap_i64]
 omega
theorem i64_lo1 (n:Int):bits .and .i64 n 1=n % 2:=by
 have h:(BitVec.ofInt 64 1).toNat=2^1-1:=by decide
 have key:(BitVec.ofInt 64 n &&& BitVec.ofInt 64 1).toNat=(n % ((2^64:Nat):Int)).toNat % 2^1:=by
  rw [BitVec.toNat_and,h,Nat.and_two_pow_sub_one_eq_mod,BitVec.toNat_ofInt]
 show IntKind.i64.wrap ((BitVec.ofInt 64 n &&& BitVec.ofInt 64 1).toNat:Nat)=n % 2
 rw [key,IntKind.wrap_i64]
 omega
theorem info17 {l:List Int} (h:l.length=17):(Tryz.prog.info? 146).map (·.size)=some (tabI l).size:=by rw [zaB,h];kernel_rfl
def zer17:Array Value:=tabI (List.replicate 17 0)
theorem zer17_zero (u:World):(zeroValue 146).run Tryz.prog u=.ok (.agg zer17) u:=zero_row 146 zer17 17 (by kernel_rfl) u
theorem zer17_dg:zer17=tabI (dgN 17 ((0:Nat):Int)):=rfl
structure MoI (w wr:World) (g gd gl gr:Nat) (D X:List Int) (z:Array Value):Prop where
 res:wr.heap[g]?=some (.cells z 22 (0,0))
 dd:wr.heap[gd]?=some (.cells (tabI D) 2 (0,0))
 ll:wr.heap[gl]?=some (.cells (tabI (dgN 34 (LL:Int))) 2 (0,0))
 rr:wr.heap[gr]?=some (.cells (tabI X) 146 (0,0))
 o1:gd<g
 o2:g<gl
 o3:gl<gr
 below:Below g w wr
section
variable {w wr:World} {g gd gl gr:Nat} {D X Y:List Int} {z:Array Value}
theorem MoI.drew (h:MoI w wr g gd gl gr D X z):MoI w wr.drew g gd gl gr D X z:=⟨h.res,h.dd,h.ll,h.rr,h.o1,h.o2,h.o3,h.below.drew⟩
theorem MoI.row (h:MoI w wr g gd gl gr D X z) (Y:List Int):MoI w (wr.setRow gr (tabI Y)) g gd gl gr D Y z:=by
 have h1:=h.o1;have h2:=h.o2;have h3:=h.o3
 exact ⟨by rw [setRow_other _ _ _ _ (by omega)];exact h.res,by rw [setRow_other _ _ _ _ (by omega)];exact h.dd,by rw [setRow_other _ _ _ _ (by omega)];exact h.ll,setRow_heap _ _ _ _ _ _ h.rr,h1,h2,h3,zab h.below (by omega)⟩
theorem MoI.cell (h:MoI w wr g gd gl gr D X z) (k:Nat) (v:Int):MoI w (wr.setCell ⟨gr,k,none⟩ (.int .i64 v)) g gd gl gr D (X.set k v) z:=by
 rw [setCell_eq_setRow wr gr k _ _ _ (.int .i64 v) h.rr,zaR]
 exact h.row _
theorem MoI.off (h:MoI w wr g gd gl gr D X z) (gs:Nat) (hg:gr<gs) (cs:Array Value):MoI w (wr.setRow gs cs) g gd gl gr D X z:=by
 have h1:=h.o1;have h2:=h.o2;have h3:=h.o3
 exact ⟨by rw [setRow_other _ _ _ _ (by omega)];exact h.res,by rw [setRow_other _ _ _ _ (by omega)];exact h.dd,by rw [setRow_other _ _ _ _ (by omega)];exact h.ll,by rw [setRow_other _ _ _ _ (by omega)];exact h.rr,h1,h2,h3,zab h.below (by omega)⟩
theorem MoI.lt (h:MoI w wr g gd gl gr D X z):gr<wr.heap.size:=(Array.getElem?_eq_some_iff.1 h.rr).1
theorem MoI.alloc (h:MoI w wr g gd gl gr D X z) (o:Obj):MoI w (wr.alloc o) g gd gl gr D X z:=by
 have h1:=h.o1;have h2:=h.o2;have h3:=h.o3;have h4:=h.lt
 exact ⟨by rw [heap_alloc_old _ _ (by omega)];exact h.res,by rw [heap_alloc_old _ _ (by omega)];exact h.dd,by rw [heap_alloc_old _ _ (by omega)];exact h.ll,by rw [heap_alloc_old _ _ h4];exact h.rr,h1,h2,h3,h.below.alloc (by omega) _⟩
end
structure MoS (w wr:World) (g gd gl gr gs:Nat) (D X Y:List Int) (z:Array Value):Prop where
 base:MoI w wr g gd gl gr D X z
 ss:wr.heap[gs]?=some (.cells (tabI Y) 146 (0,0))
 o4:gr<gs
section
variable {w wr:World} {g gd gl gr gs:Nat} {D X Y:List Int} {z:Array Value}
theorem MoS.drew (h:MoS w wr g gd gl gr gs D X Y z):MoS w wr.drew g gd gl gr gs D X Y z:=⟨h.base.drew,h.ss,h.o4⟩
theorem MoS.cell (h:MoS w wr g gd gl gr gs D X Y z) (k:Nat) (v:Int):MoS w (wr.setCell ⟨gs,k,none⟩ (.int .i64 v)) g gd gl gr gs D X (Y.set k v) z:=by
 rw [setCell_eq_setRow wr gs k _ _ _ (.int .i64 v) h.ss,zaR]
 exact ⟨h.base.off gs h.o4 _,setRow_heap _ _ _ _ _ _ h.ss,h.o4⟩
end
structure MoO (w wr:World) (g gr go:Nat) (X:List Int) (z:Array Value) (B:List UInt8):Prop where
 res:wr.heap[g]?=some (.cells z 22 (0,0))
 rr:wr.heap[gr]?=some (.cells (tabI X) 146 (0,0))
 out:wr.heap[go]?=some (.cells (arrB B) 22 (0,0))
 o1:g<gr
 o2:gr<go
 below:Below g w wr
theorem MoO.set {w wr:World} {g gr go:Nat} {X:List Int} {z:Array Value} {B:List UInt8} (h:MoO w wr g gr go X z B) (k:Nat) (x:UInt8):MoO w (wr.setCell ⟨go,k,none⟩ (.int .u8 (x.toNat:Int))) g gr go X z (B.set k x):=by
 have h1:=h.o1;have h2:=h.o2
 rw [setCell_eq_setRow wr go k _ _ _ (.int .u8 (x.toNat:Int)) h.out,za3]
 exact ⟨by rw [setRow_other _ _ _ _ (by omega)];exact h.res,by rw [setRow_other _ _ _ _ (by omega)];exact h.rr,setRow_heap _ _ _ _ _ _ h.out,h1,h2,zab h.below (by omega)⟩
theorem rmodulo_any (gd V:Nat) (hV:V<65536^34) (w:World) (hd:w.heap[gd]?=some (.cells (tabI (dgN 34 (V:Int))) 2 (0,0))) :
  Calls Tryz.prog 57 #[.slice (some ⟨gd,0,none⟩) 34 34] w fun e w'=>e=.returned (.agg (arrB (leB 32 (V % LL))))∧Below w.heap.size w w':=by
 have hz:=fun u=>zer32_zero u
 have hz17:=fun u=>zer17_zero u
 have HOR:Hid (∀ W:World,Calls Tryz.prog 111 #[] W fun e w'=>e=.returned (.agg ordA)∧Below W.heap.size W w'):=yh rorder_any
 have HDI:Hid (∀ (A:Option Addr) (W:World),Bs W A (leB 32 LL)→Calls Tryz.prog 58 #[.slice A 32 32] W (RetD W (leB 32 LL))):=yh fun A W hb=>by
  have h:=rdigits_any A (leB 32 LL) 32 W hb (by rw [zaq];omega)
  rwa [zaq] at h
 have io:=ordA_info
 have oo:=ordA_one
 have so:zer32.size=ordA.size:=by rw [zer32_size,ordA_size]
 have HO:Hid (ordA=arrB (leB 32 LL)):=yh rfl
 have hgd:gd<w.heap.size:=(Array.getElem?_eq_some_iff.1 hd).1
 have HZ32:Hid (zer32=arrB (List.replicate 32 0)):=yh rfl
 have HZS:=yh zer32_size
 obtain ⟨z32,hz32⟩:∃ z,zer32=z:=⟨_,rfl⟩
 rw [hz32] at so HZ32 HZS
 simp only [hz32] at hz
 have HZE:=yh hz32
 have HD0:=yh hd
 have HGD:=yh hgd
 have HV:=yh hV
 clear hz32 hd hgd hV
 go_enter Tryz.func57,Tryz.ntmps57
 go_wp2_with fail
 obtain ⟨W1,hW1⟩:∃ X,w.alloc (.cells z32 22)=X:=⟨_,rfl⟩
 have hr1:W1.heap[w.heap.size]?=some (.cells z32 22 (0,0)):=by rw [← hW1];exact heap_alloc_new _ _
 have hb1:Below w.heap.size w W1:=by rw [← hW1];exact below_al (Below.refl _ _) _
 rw [hW1]
 clear hW1
 with_reducible refine (HOR.out _).mono ?_
 rintro e v1 ⟨rfl,hbv1⟩
 have hr2:v1.heap[w.heap.size]?=some (.cells z32 22 (0,0)):=by rw [hbv1.block _ (Array.getElem?_eq_some_iff.1 hr1).1];exact hr1
 have HR2:=yh hr2
 have HB2:=yh (below_nx hb1 hbv1)
 have h3:(v1.alloc (.cells z32 22)).heap[v1.heap.size]?=some (.cells z32 22 (0,0)):=heap_alloc_new _ _
 clear hr1 hb1 hbv1 hr2
 go_upto_region 2 with (refine yj ordA h3 io so oo ?_)
 obtain ⟨W3,hW3⟩:∃ X,(v1.alloc (.cells z32 22)).setRow v1.heap.size ordA=X:=⟨_,rfl⟩
 have hr3:W3.heap[v1.heap.size]?=some (.cells ordA 22 (0,0)):=by rw [← hW3];exact setRow_heap _ _ _ _ _ _ h3
 have hbv3:Below v1.heap.size v1 W3:=by rw [← hW3];exact zab ((Below.refl _ _).alloc (Nat.le_refl _) _) (Nat.le_refl _)
 obtain ⟨go,hgo⟩:∃ X,v1.heap.size=X:=⟨_,rfl⟩
 have HR3:Hid (W3.heap[w.heap.size]?=some (.cells z32 22 (0,0))):=yh (by rw [hbv3.block _ (Array.getElem?_eq_some_iff.1 HR2.out).1];exact HR2.out)
 have HB3:=yh (below_nx HB2.out hbv3)
 rw [hgo] at hr3
 rw [HO.out] at hr3
 have HBS:Hid (Bs W3 (some ⟨go,0,none⟩) (leB 32 LL)):=yh (bs_arr hr3)
 rw [hW3,hgo]
 clear hr3 hbv3 h3 hW3 hgo HR2 HB2 HOR
 go_wp2_with fail
 with_reducible refine (HDI.out _ _ HBS.out).mono ?_
 rintro e v4 ⟨gl,rfl,hl4,hgl,hb4⟩
 have HL4:Hid (v4.heap[gl]?=some (.cells (tabI (dgN 34 (LL:Int))) 2 (0,0))):=yh (by rw [zbr 32 LL (by decide)] at hl4;exact hl4)
 have HR4:Hid (v4.heap[w.heap.size]?=some (.cells z32 22 (0,0))):=yh (by rw [hb4.block _ (Array.getElem?_eq_some_iff.1 HR3.out).1];exact HR3.out)
 have HB4:=yh (below_nx HB3.out hb4)
 have HGL:Hid (w.heap.size<gl∧gl<v4.heap.size):=yh ⟨by have:=(Array.getElem?_eq_some_iff.1 HR3.out).1;omega,(Array.getElem?_eq_some_iff.1 HL4.out).1⟩
 clear hl4 hgl hb4 HR3 HB3 HBS HDI
 have h5:(v4.alloc (.cells zer17 146)).heap[v4.heap.size]?=some (.cells zer17 146 (0,0)):=heap_alloc_new _ _
 have i17:(Tryz.prog.info? 146).map (·.size)=some zer17.size:=info17 rfl
 have o17:zer17.all (·.oneCell')=true:=zaZ _
 have HI:Hid (MoI w ((v4.alloc (.cells zer17 146)).setRow v4.heap.size zer17) w.heap.size gd gl v4.heap.size (dgN 34 (V:Int)) (dgN 17 (modR V 544:Int)) z32):=yh (by
  rw [modR_top V HV.out]
  have hd4:v4.heap[gd]?=some (.cells (tabI (dgN 34 (V:Int))) 2 (0,0)):=by rw [HB4.out.block _ HGD.out];exact HD0.out
  have a:=HGL.out
  have b:=HGD.out
  have c:=HB4.out.size
  refine ⟨?_,?_,?_,by rw [← zer17_dg];exact setRow_heap _ _ _ _ _ _ h5,b,a.1,a.2,zab (below_al HB4.out _) c⟩
  ·rw [setRow_other _ _ _ _ (by omega),heap_alloc_old _ _ (by omega)];exact HR4.out
  ·rw [setRow_other _ _ _ _ (by omega),heap_alloc_old _ _ (by omega)];exact hd4
  ·rw [setRow_other _ _ _ _ (by omega),heap_alloc_old _ _ (by omega)];exact HL4.out)
 go_wp2_with (first
  | (refine zaj (o:=⟨some 17,_,_,_,_,_⟩) rfl (.agg zer17) (by kernel_rfl) ?_)
  | (refine yj zer17 h5 i17 rfl o17 ?_))
 obtain ⟨W5,hW5⟩:∃ X,(v4.alloc (.cells zer17 146)).setRow v4.heap.size zer17=X:=⟨_,rfl⟩
 obtain ⟨gr,hgr⟩:∃ X,v4.heap.size=X:=⟨_,rfl⟩
 obtain ⟨g,hg⟩:∃ X,w.heap.size=X:=⟨_,rfl⟩
 rw [hW5,hgr,hg] at HI
 rw [hW5,hgr,hg]
 have HG:=yh hg
 clear hW5 hgr hg h5 HR4 HB4 HL4 HGL HD0 HGD HO io oo so
 obtain ⟨D,hD⟩:∃ D,dgN 34 (V:Int)=D:=⟨_,rfl⟩
 have HD:=yh hD
 rw [hD] at HI
 clear hD
 go_loopw [6] (fun i wr=>∃ k:Nat,k≤544∧i=.int .i64 ((k:Int)-1)∧Hid (MoI w wr g gd gl gr D (dgN 17 (modR V k:Int)) z32)) (fun i _=>(intOf i+1).toNat)
 case atStart=>exact ⟨544,by omega,rfl,HI⟩
 case round =>
  clear HI
  obtain ⟨k,hk,rfl,HI⟩:=hrel
  cases k with
  | succ j =>
   obtain ⟨v,hv⟩:∃ v:Int,((j+1:Nat):Int)-1=v:=⟨_,rfl⟩
   rw [hv]
   obtain rfl:v=(j:Int):=by omega
   clear hv
   obtain ⟨R,hR⟩:∃ R,modR V (j+1)=R:=⟨_,rfl⟩
   obtain ⟨c0,hc0⟩:∃ c,V/2^j % 2=c:=⟨_,rfl⟩
   have hnext:=modR_next hR.symm hc0.symm
   have hRl:R<LL:=by rw [← hR];exact modR_lt _ _
   have hcl:c0<2:=by rw [← hc0];exact Nat.mod_lt _ (by decide)
   rw [hR] at HI
   obtain ⟨q,hq⟩:∃ q,j/16=q:=⟨_,rfl⟩
   obtain ⟨r,hr⟩:∃ r,j % 16=r:=⟨_,rfl⟩
   have hq34:q<34:=by omega
   have hr16:r<16:=by omega
   obtain ⟨dv,hdv⟩:∃ d,V/65536^q % 65536=d:=⟨_,rfl⟩
   have cd:wr.cell? ⟨gd,q,none⟩=some (.int .i64 (dv:Int)):=by rw [cell_of_row _ _ _ _ _ _ HI.out.dd,zas _ _ (by rw [← HD.out,zaD];exact hq34),← HD.out,gI_dgN 34 q V hq34,hdv]
   obtain ⟨y,hy⟩:∃ y,dv/2^r=y:=⟨_,rfl⟩
   have f1:(dv:Int)/2^r=(y:Int):=by rw [← hy,Int.natCast_ediv];simp
   have f2:bits .and .i64 (y:Int) 1=(c0:Int):=by
    rw [i64_lo1]
    have h:=bit_at V j
    rw [hq,hr,hdv,hy,hc0] at h
    omega
   have f3:(j:Int).tdiv 16=(q:Int):=by rw [Int.tdiv_eq_ediv_of_nonneg (by omega)];omega
   have f3':(j:Int)/16=(q:Int):=by omega
   have f4:(j:Int).tmod 16=(r:Int):=by rw [Int.tmod_eq_emod_of_nonneg (by omega)];omega
   have f4':(j:Int) % 16=(r:Int):=by omega
   have f5:IntKind.u64.wrap (r:Int)=(r:Int):=by rw [IntKind.wrap_u64];omega
   have b1:0≤(q:Int):=by omega
   have b2:(q:Int)<34:=by omega
   have b3:0≤(r:Int):=by omega
   have b4:decide (0≤(j:Int))=true:=decide_eq_true (by omega)
   have b5:0≤(j:Int):=by omega
   have HN:=yh hnext
   have HRL:=yh hRl
   have HCL:=yh hcl
   have HQ:Hid (j<544):=yh (by omega)
   clear hnext hRl hcl hR hc0 hq hr hdv hy hk
   go_wp2_with fail
   clear cd f1 f2 f3 f3' f4 f4' f5 b1 b2 b3
   have HI0:Hid (MoI w wr g gd gl gr D (opG 17 (fun t=>gI (dgN 17 ((2*R+c0:Nat):Int)) t) (dgN 17 (R:Int)) 0) z32):=yh (by rw [opG_zero _ (zaD _ _)];exact HI.out)
   clear HI
   go_loopw [7,8] (fun c i wr=>∃ a:Nat,a≤17∧i=.int .i64 (a:Int)∧c=.int .i64 (dblC R c0 a:Int)∧Hid (MoI w wr g gd gl gr D (opG 17 (fun t=>gI (dgN 17 ((2*R+c0:Nat):Int)) t) (dgN 17 (R:Int)) a) z32)) (fun _ i _=>17-(intOf i).toNat)
   case atStart=>exact ⟨0,by omega,rfl,by rw [dblC_zero],HI0⟩
   case round =>
    clear HI0
    obtain ⟨a,ha,rfl,rfl,HI0⟩:=hrel
    by_cases hlt:a<17
    ·obtain ⟨dg,hdg⟩:∃ d,R/65536^a % 65536=d:=⟨_,rfl⟩
     obtain ⟨cc,hcc⟩:∃ c,dblC R c0 a=c:=⟨_,rfl⟩
     have hccl:cc<2:=by rw [← hcc];exact dblC_le R c0 a HCL.out
     have hdgl:dg<65536:=by rw [← hdg];exact Nat.mod_lt _ (by decide)
     have st:=dbl_step R c0 a
     rw [hcc,hdg] at st
     rw [hcc]
     obtain ⟨lo,hlo⟩:∃ x,(2*R+c0)/65536^a % 65536=x:=⟨_,rfl⟩
     obtain ⟨hi,hhi⟩:∃ x,dblC R c0 (a+1)=x:=⟨_,rfl⟩
     rw [hlo,hhi] at st
     have cr:wr.cell? ⟨gr,a,none⟩=some (.int .i64 (dg:Int)):=by rw [cell_of_row _ _ _ _ _ _ HI0.out.rr,zas _ _ (by rw [opG_len];exact hlt),opG_get _ _ _ _ hlt,if_neg (by omega),gI_dgN 17 a R hlt,hdg]
     have fx:wr.frozen? ⟨gr,a,none⟩=false:=by have:=HI0.out.rr;simp [World.frozen?,this]
     have HI2:Hid (MoI w (wr.setCell ⟨gr,a,none⟩ (.int .i64 (lo:Int))) g gd gl gr D (opG 17 (fun t=>gI (dgN 17 ((2*R+c0:Nat):Int)) t) (dgN 17 (R:Int)) (a+1)) z32):=yh (by
      have h:=HI0.out.cell a (lo:Int)
      rw [show (lo:Int)=gI (dgN 17 ((2*R+c0:Nat):Int)) a by rw [gI_dgN 17 a _ hlt,hlo],opG_set (fun t=>gI (dgN 17 ((2*R+c0:Nat):Int)) t) _ hlt] at h
      rwa [gI_dgN 17 a _ hlt,hlo] at h)
     have e1:(2:Int)*(dg:Int)=((2*dg:Nat):Int):=by omega
     have e2:(cc:Int)+((2*dg:Nat):Int)=((cc+2*dg:Nat):Int):=by omega
     have e3:bits .and .i64 ((cc+2*dg:Nat):Int) 65535=(lo:Int):=by rw [i64_lo16];omega
     have e4:((cc+2*dg:Nat):Int)/65536=(hi:Int):=by omega
     have e5:cc+2*dg<200000:=by omega
     have e6:2*dg<200000:=by omega
     have e7:decide ((a:Int)<17)=true:=decide_eq_true (by omega)
     have b6:0≤(a:Int):=by omega
     have b7:(a:Int)<17:=by omega
     generalize cc+2*dg=s at *
     generalize 2*dg=d2 at *
     clear HI0 hdg hcc hccl hdgl st hlo ha
     have HHI:=yh hhi
     clear hhi
     go_wp2_with fail
     go_roundw
     case rel=>exact ⟨a+1,by omega,by go_num,by rw [HHI.out],HI2⟩
     case measure=>simp [intOf];omega
    ·have e7:decide ((a:Int)<17)=false:=decide_eq_false (by omega)
     have ha17:a=17:=by omega
     rw [ha17,opG_end (b:=dgN 17 ((2*R+c0:Nat):Int)) _ _ (zaD _ _) (fun _ _=>rfl)] at HI0
     have hR2:2*R+c0<2*LL:=by have:=HRL.out;have:=HCL.out;omega
     have HN2:=HN.out
     obtain ⟨R2,hR2e⟩:∃ x,2*R+c0=x:=⟨_,rfl⟩
     rw [hR2e] at HI0 hR2 HN2
     have HN3:=yh HN2
     have HR2L:=yh hR2
     have hrr:=HI0.out.rr
     have iX:(Tryz.prog.info? 146).map (·.size)=some (tabI (dgN 17 (R2:Int))).size:=info17 (zaD _ _)
     have oX:=zaZ (dgN 17 (R2:Int))
     have sX:zer17.size=(tabI (dgN 17 (R2:Int))).size:=by unfold zer17;rw [zaB,zaB,zaD];simp
     have h6:(wr.alloc (.cells zer17 146)).heap[wr.heap.size]?=some (.cells zer17 146 (0,0)):=heap_alloc_new _ _
     have HS0:Hid (MoS w ((wr.alloc (.cells zer17 146)).setRow wr.heap.size (tabI (dgN 17 (R2:Int)))) g gd gl gr wr.heap.size D (dgN 17 (R2:Int)) (opG 17 (fun t=>gI (dgN 17 (R2:Int)) t-gI (dgN 34 (LL:Int)) t) (dgN 17 (R2:Int)) 0) z32):=yh (by
      rw [opG_zero _ (zaD _ _)]
      exact ⟨(HI0.out.alloc _).off _ HI0.out.lt _,setRow_heap _ _ _ _ _ _ h6,HI0.out.lt⟩)
     obtain ⟨TX,hTX⟩:∃ X,tabI (dgN 17 (R2:Int))=X:=⟨_,rfl⟩
     rw [hTX] at hrr iX oX sX HS0
     clear HI0 ha17 hlt ha hR2 hR2e HN2 hTX HRL HCL HN
     go_wp2_with (first
      | (refine yi hrr Tryz.underlying146 iX ?_)
      | (refine yj TX h6 iX sX oX ?_))
     obtain ⟨W6,hW6⟩:∃ X,(wr.alloc (.cells zer17 146)).setRow wr.heap.size TX=X:=⟨_,rfl⟩
     obtain ⟨gs,hgs⟩:∃ X,wr.heap.size=X:=⟨_,rfl⟩
     rw [hgs] at hW6
     rw [hgs,hW6] at HS0
     rw [hgs,hW6]
     clear hW6 hgs h6 hrr iX oX sX e7
     go_loopw [10] (fun i wr=>∃ a:Nat,a≤17∧i=.int .i64 (a:Int)∧Hid (MoS w wr g gd gl gr gs D (dgN 17 (R2:Int)) (opG 17 (fun t=>gI (dgN 17 (R2:Int)) t-gI (dgN 34 (LL:Int)) t) (dgN 17 (R2:Int)) a) z32)) (fun i _=>17-(intOf i).toNat)
     case atStart=>exact ⟨0,by omega,rfl,HS0⟩
     case round =>
      clear HS0
      obtain ⟨a,ha,rfl,HS0⟩:=hrel
      by_cases hlt:a<17
      ·obtain ⟨x,hx⟩:∃ x,gI (dgN 17 (R2:Int)) a=x:=⟨_,rfl⟩
       obtain ⟨y,hy⟩:∃ y,gI (dgN 34 (LL:Int)) a=y:=⟨_,rfl⟩
       have hxb:=dgN_get 17 (R2:Int) a hlt
       have hyb:=dgN_get 34 (LL:Int) a (by omega)
       rw [hx] at hxb
       rw [hy] at hyb
       have cs:wr.cell? ⟨gs,a,none⟩=some (.int .i64 x):=by rw [cell_of_row _ _ _ _ _ _ HS0.out.ss,zas _ _ (by rw [opG_len];exact hlt),opG_get _ _ _ _ hlt,if_neg (by omega),hx]
       have cl:wr.cell? ⟨gl,a,none⟩=some (.int .i64 y):=by rw [cell_of_row _ _ _ _ _ _ HS0.out.base.ll,zas _ _ (by rw [zaD];omega),hy]
       have fx:wr.frozen? ⟨gs,a,none⟩=false:=by have:=HS0.out.ss;simp [World.frozen?,this]
       have HS2:Hid (MoS w (wr.drew.setCell ⟨gs,a,none⟩ (.int .i64 (x-y))) g gd gl gr gs D (dgN 17 (R2:Int)) (opG 17 (fun t=>gI (dgN 17 (R2:Int)) t-gI (dgN 34 (LL:Int)) t) (dgN 17 (R2:Int)) (a+1)) z32):=yh (by
        have h:=HS0.out.drew.cell a (x-y)
        rw [← hx,← hy,opG_set (fun t=>gI (dgN 17 (R2:Int)) t-gI (dgN 34 (LL:Int)) t) _ hlt] at h
        rwa [hx,hy] at h)
       have e7:decide ((a:Int)<17)=true:=decide_eq_true (by omega)
       have b6:0≤(a:Int):=by omega
       have b7:(a:Int)<17:=by omega
       have b8:(a:Int)<34:=by omega
       have e8:IntKind.i64.wrap (x-y)=x-y:=by rw [IntKind.wrap_i64];omega
       clear HS0 hx hy ha
       go_wp2_with fail
       refine wp_region_still_tail 9 (by kernel_rfl) (by kernel_rfl) ?_
       simp only [List.take_succ_cons,List.take_zero,List.drop_succ_cons,List.drop_zero]
       iterate 9 still_step
       refine wpStill_nil ?_
       go_wp2_with fail
       go_roundw
       case rel=>exact ⟨a+1,by omega,by go_num,HS2⟩
       case measure=>simp [intOf];omega
      ·have e7:decide ((a:Int)<17)=false:=decide_eq_false (by omega)
       have ha17:a=17:=by omega
       rw [ha17,opG_end (b:=subG R2) _ _ (subG_len _) (fun t ht=>(subG_get R2 t ht).symm)] at HS0
       clear ha17 hlt ha
       have HS0:Hid (MoS w wr g gd gl gr gs D (dgN 17 (R2:Int)) (zau (subG R2) 0) z32):=HS0
       go_wp2_with fail
       clear e7
       go_loopw [11] (fun i wr=>∃ a:Nat,a≤16∧i=.int .i64 (a:Int)∧Hid (MoS w wr g gd gl gr gs D (dgN 17 (R2:Int)) (zau (subG R2) a) z32)) (fun i _=>16-(intOf i).toNat)
       case atStart=>exact ⟨0,by omega,rfl,HS0⟩
       case round =>
        clear HS0
        obtain ⟨k,hk,rfl,HI⟩:=hrel
        by_cases hlt:k<16
        ·have hml:(zau (subG R2) k).length=17:=by rw [zaP,subG_len]
         have hst:=carry_st (l:=subG R2) (B:=65536) (by omega) (subG_bd R2) k (by rw [subG_len];omega)
         obtain ⟨m,hm⟩:∃ m,zau (subG R2) k=m:=⟨_,rfl⟩
         obtain ⟨m2,hm2⟩:∃ m2,m.set (k+1) (gI m (k+1)+gI m k/65536)=m2:=⟨_,rfl⟩
         have hnx:zau (subG R2) (k+1)=m2.set k (gI m k % 65536):=by rw [zau,hm,← hm2];rfl
         have hg2:gI m2 k=gI m k:=by rw [← hm2,gI_set _ _ _ _ (by rw [← hm,hml];omega),if_neg (by omega)]
         have hxb:=hst.at_
         have hyb:-65536≤gI m (k+1)∧gI m (k+1)≤65536:=by
          have h1:=hst.high (k+1) (by omega)
          rw [hm] at h1
          rw [h1]
          exact subG_bd R2 (k+1)
         rw [hm] at hml hxb HI
         have HNX:=yh hnx
         have hl2:m2.length=17:=by rw [← hm2,List.length_set];exact hml
         have cx:wr.cell? ⟨gs,k,none⟩=some (.int .i64 (gI m k)):=by rw [cell_of_row _ _ _ _ _ _ HI.out.ss,zas _ _ (by omega)]
         have cy:wr.cell? ⟨gs,k+1,none⟩=some (.int .i64 (gI m (k+1))):=by rw [cell_of_row _ _ _ _ _ _ HI.out.ss,zas _ _ (by omega)]
         have fx:wr.frozen? ⟨gs,k+1,none⟩=false:=by have:=HI.out.ss;simp [World.frozen?,this]
         obtain ⟨x,hx⟩:∃ x,gI m k=x:=⟨_,rfl⟩
         obtain ⟨y,hy⟩:∃ y,gI m (k+1)=y:=⟨_,rfl⟩
         obtain ⟨q,hq⟩:∃ q,x/65536=q:=⟨_,rfl⟩
         obtain ⟨r,hr⟩:∃ r,x % 65536=r:=⟨_,rfl⟩
         obtain ⟨s,hs⟩:∃ s,y+q=s:=⟨_,rfl⟩
         rw [hx] at hxb cx hg2
         rw [hy] at hyb cy
         rw [hx,hr] at hnx
         rw [hx,hy,hq,hs] at hm2
         rw [hx,hr] at HNX
         have f1:IntKind.i64.wrap s=s:=by rw [IntKind.wrap_i64];omega
         have f2:bits .and .i64 x 65535=r:=by rw [i64_lo16,hr]
         have f3:IntKind.i64.wrap ((k:Int)+1)=(k:Int)+1:=by rw [IntKind.wrap_i64];omega
         have e7:decide ((k:Int)<16)=true:=decide_eq_true (by omega)
         have p1:0≤(k:Int):=by omega
         have p2:(k:Int)<16:=by omega
         have p3:0≤(k:Int)+1:=by omega
         have p4:(k:Int)+1<17:=by omega
         have p5:(k:Int)<17:=by omega
         have HI2:Hid (MoS w (wr.drew.setCell ⟨gs,k+1,none⟩ (.int .i64 s)) g gd gl gr gs D (dgN 17 (R2:Int)) m2 z32):=yh (by rw [← hm2];exact (HI.out.drew).cell (k+1) _)
         have c2:(wr.setCell ⟨gs,k+1,none⟩ (.int .i64 s)).drew.cell? ⟨gs,k,none⟩=some (.int .i64 x):=by rw [show (wr.setCell ⟨gs,k+1,none⟩ (.int .i64 s)).drew=wr.drew.setCell ⟨gs,k+1,none⟩ (.int .i64 s) from rfl,cell_of_row _ _ _ _ _ _ HI2.out.ss,zas _ _ (by omega),hg2]
         have z2:(wr.setCell ⟨gs,k+1,none⟩ (.int .i64 s)).drew.frozen? ⟨gs,k,none⟩=false:=by
          have:=HI2.out.ss
          show (wr.drew.setCell ⟨gs,k+1,none⟩ (.int .i64 s)).frozen? ⟨gs,k,none⟩=false
          simp [World.frozen?,this]
         have HI3:Hid (MoS w ((wr.drew.setCell ⟨gs,k+1,none⟩ (.int .i64 s)).setCell ⟨gs,k,none⟩ (.int .i64 r)) g gd gl gr gs D (dgN 17 (R2:Int)) (m2.set k r) z32):=yh (HI2.out.cell k _)
         clear hst hm hm2 hnx hg2 hml hl2 hx hy hr HI HI2 hk
         go_wp2_with fail
         refine wp_region_still_tail 11 (by kernel_rfl) (by kernel_rfl) ?_
         simp only [List.take_succ_cons,List.take_zero,List.drop_succ_cons,List.drop_zero]
         iterate 11 still_step
         refine wpStill_nil ?_
         go_wp2_with fail
         go_roundw
         case rel=>exact ⟨k+1,by omega,by go_num,by rw [HNX.out];exact HI3⟩
         case measure=>simp [intOf];omega
        ·have e7:decide ((k:Int)<16)=false:=decide_eq_false (by omega)
         have hk16:k=16:=by omega
         rw [hk16] at HI
         have hsc:=sub_carry R2 HR2L.out
         obtain ⟨m,hm⟩:∃ m,zau (subG R2) 16=m:=⟨_,rfl⟩
         rw [hm] at hsc HI
         have hml:m.length=17:=by rw [← hm,zaP,subG_len]
         obtain ⟨top,htop⟩:∃ x,gI m 16=x:=⟨_,rfl⟩
         have ct:wr.cell? ⟨gs,16,none⟩=some (.int .i64 top):=by rw [cell_of_row _ _ _ _ _ _ HI.out.ss,zas _ _ (by omega),htop]
         rw [htop] at hsc
         by_cases hle:LL≤R2
         ·have ht:decide (0≤top)=true:=decide_eq_true (hsc.1.2 hle)
          have hmd:=hsc.2 hle
          have hnx:modR V j=R2-LL:=by have:=HN3.out;rwa [if_pos hle] at this
          have hss:=HI.out.ss
          have hrr:=HI.out.base.rr
          have HI2:Hid (MoI w (wr.setRow gr (tabI m)) g gd gl gr D (dgN 17 (modR V j:Int)) z32):=yh (by rw [hnx,← hmd];exact HI.out.base.row m)
          have iM:(Tryz.prog.info? 146).map (·.size)=some (tabI m).size:=info17 hml
          have oM:=zaZ m
          have sM:(tabI (dgN 17 (R2:Int))).size=(tabI m).size:=by rw [zaB,zaB,zaD,hml]
          obtain ⟨TM,hTM⟩:∃ X,tabI m=X:=⟨_,rfl⟩
          obtain ⟨TX,hTX⟩:∃ X,tabI (dgN 17 (R2:Int))=X:=⟨_,rfl⟩
          rw [hTM] at hss iM oM sM HI2
          rw [hTX] at hrr sM
          clear hsc hmd hnx hTM hTX hml htop hm hle HI hk16 hlt hk HN3 HR2L
          have hj:=HQ.out
          go_wp2_with (first
           | (refine yi hss Tryz.underlying146 iM ?_)
           | (refine yj TM hrr iM sM oM ?_))
          go_roundw
          case rel=>exact ⟨j,by have:=HQ.out;omega,by first | rfl | go_num,HI2⟩
          case measure=>first | (simp [intOf];done) | (simp [intOf];omega)
         ·have ht:decide (0≤top)=false:=decide_eq_false (fun h=>hle (hsc.1.1 h))
          have hnx:modR V j=R2:=by have:=HN3.out;rwa [if_neg hle] at this
          have HI2:Hid (MoI w wr g gd gl gr D (dgN 17 (modR V j:Int)) z32):=yh (by rw [hnx];exact HI.out.base)
          clear hsc hnx hml htop hm hle HI hk16 hlt hk HN3 HR2L
          have hj:=HQ.out
          go_wp2_with fail
          go_roundw
          case rel=>exact ⟨j,by have:=HQ.out;omega,by first | rfl | go_num,HI2⟩
          case measure=>first | (simp [intOf];done) | (simp [intOf];omega)
  | zero =>
   have b4:decide ((0:Int)≤-1)=false:=by decide
   have b5:decide (0≤(((0:Nat):Int)-1))=false:=by decide
   obtain ⟨R,hR⟩:∃ R,modR V 0=R:=⟨_,rfl⟩
   rw [hR] at HI
   rw [modR_zero] at hR
   have hRl:R<256^32:=by rw [← hR];exact Nat.lt_trans (Nat.mod_lt _ (by decide)) (show LL<256^32 by decide)
   have HRE:=yh hR
   have HRL:=yh hRl
   have h7:(wr.alloc (.cells z32 22)).heap[wr.heap.size]?=some (.cells z32 22 (0,0)):=heap_alloc_new _ _
   have i32:(Tryz.prog.info? 22).map (·.size)=some z32.size:=by rw [HZS.out];kernel_rfl
   have o32:z32.all (·.oneCell')=true:=by rw [HZ32.out];exact zax _
   have HO0:Hid (MoO w ((wr.alloc (.cells z32 22)).setRow wr.heap.size z32) g gr wr.heap.size (dgN 17 (R:Int)) z32 (byK R 0)):=yh (by
    have a:=HI.out.lt
    have b:=HI.out.o2
    have c:=HI.out.o3
    have d:g≤wr.heap.size:=by have:=HI.out.below.size;have:=HG.out;omega
    refine ⟨?_,?_,?_,by omega,a,zab (HI.out.below.alloc d _) d⟩
    ·rw [setRow_other _ _ _ _ (by omega),heap_alloc_old _ _ (by omega)];exact HI.out.res
    ·rw [setRow_other _ _ _ _ (by omega),heap_alloc_old _ _ (by omega)];exact HI.out.rr
    ·rw [byK_zero,← HZ32.out];exact setRow_heap _ _ _ _ _ _ h7)
   clear HI hR hRl hk
   go_wp2_with (first
    | (refine zaj (o:=⟨some 93,_,_,_,_,_⟩) rfl (.agg z32) (by rw [← HZE.out];kernel_rfl) ?_)
    | (refine yj z32 h7 i32 rfl o32 ?_))
   obtain ⟨W7,hW7⟩:∃ X,(wr.alloc (.cells z32 22)).setRow wr.heap.size z32=X:=⟨_,rfl⟩
   obtain ⟨go,hgo⟩:∃ X,wr.heap.size=X:=⟨_,rfl⟩
   rw [hgo] at hW7
   rw [hgo,hW7] at HO0
   rw [hgo,hW7]
   clear hW7 hgo h7 i32 o32 b4 b5
   go_loopw [13] (fun i wr=>∃ k:Nat,k≤32∧i=.int .i64 (k:Int)∧Hid (MoO w wr g gr go (dgN 17 (R:Int)) z32 (byK R k))) (fun i _=>32-(intOf i).toNat)
   case atStart=>exact ⟨0,by omega,rfl,HO0⟩
   case round =>
    clear HO0
    obtain ⟨k,hk,rfl,HO0⟩:=hrel
    by_cases hlt:k<32
    ·obtain ⟨q,hq⟩:∃ q,k/2=q:=⟨_,rfl⟩
     obtain ⟨r,hr⟩:∃ r,k % 2=r:=⟨_,rfl⟩
     obtain ⟨e,he⟩:∃ e,8*r=e:=⟨_,rfl⟩
     have hq17:q<17:=by omega
     have hby:=byte_dg R k
     rw [hq,hr,he] at hby
     obtain ⟨dv,hdv⟩:∃ d,R/65536^q % 65536=d:=⟨_,rfl⟩
     rw [hdv] at hby
     obtain ⟨y,hy⟩:∃ y,dv/2^e=y:=⟨_,rfl⟩
     rw [hy] at hby
     have cr:wr.cell? ⟨gr,q,none⟩=some (.int .i64 (dv:Int)):=by rw [cell_of_row _ _ _ _ _ _ HO0.out.rr,zas _ _ (by rw [zaD];exact hq17),gI_dgN 17 q R hq17,hdv]
     have ce:wr.cell? ⟨go,k,none⟩=some (.int .u8 (((byK R k).getD k 0).toNat:Int)):=by rw [cell_of_row _ _ _ _ _ _ HO0.out.out,zaE _ _ (by rw [byK_len];exact hlt)]
     have fx:wr.frozen? ⟨go,k,none⟩=false:=by have:=HO0.out.out;simp [World.frozen?,this]
     obtain ⟨v,hv⟩:∃ v:Nat,(byF R k).toNat=v:=⟨_,rfl⟩
     have hv2:v=y % 256:=by rw [← hv,byF_nat,hby]
     have HO2:Hid (MoO w (wr.setCell ⟨go,k,none⟩ (.int .u8 (v:Int))) g gr go (dgN 17 (R:Int)) z32 (byK R (k+1))):=yh (by
      have h:=HO0.out.set k (byF R k)
      rwa [byK_set _ _ hlt,hv] at h)
     have f1:(dv:Int)/2^e=(y:Int):=by rw [← hy,Int.natCast_ediv];simp
     have f2:bits .and .i64 (y:Int) 255=(v:Int):=by rw [i64_lo8];omega
     have f2':IntKind.u8.wrap (v:Int)=(v:Int):=by rw [IntKind.wrap_u8];omega
     have f3:(k:Int).tdiv 2=(q:Int):=by rw [Int.tdiv_eq_ediv_of_nonneg (by omega)];omega
     have f3':(k:Int)/2=(q:Int):=by omega
     have f4:(k:Int).tmod 2=(r:Int):=by rw [Int.tmod_eq_emod_of_nonneg (by omega)];omega
     have f4':(k:Int) % 2=(r:Int):=by omega
     have f5:(8:Int)*(r:Int)=(e:Int):=by omega
     have f6:IntKind.u64.wrap (e:Int)=(e:Int):=by rw [IntKind.wrap_u64];omega
     have b1:0≤(q:Int):=by omega
     have b2:(q:Int)<17:=by omega
     have b3:0≤(e:Int):=by omega
     have b5:0≤(k:Int):=by omega
     have b6:(k:Int)<32:=by omega
     have b7:decide ((k:Int)<32)=true:=decide_eq_true (by omega)
     generalize ((byK R k).getD k 0)=old at *
     clear HO0 hq hr he hby hdv hy hv hv2 hk
     go_wp2_with fail
     go_roundw
     case rel=>exact ⟨k+1,by omega,by go_num,HO2⟩
     case measure=>simp [intOf];omega
    ·have b7:decide ((k:Int)<32)=false:=decide_eq_false (by omega)
     have hk32:k=32:=by omega
     rw [hk32,byK_end R 32 HRL.out (by omega)] at HO0
     have h1:=HO0.out.out
     have h0:=HO0.out.res
     have iO:(Tryz.prog.info? 22).map (·.size)=some (arrB (leB 32 R)).size:=info32 (zaq _ _)
     have oO:=zax (leB 32 R)
     have sO:z32.size=(arrB (leB 32 R)).size:=by rw [HZS.out,zar,zaq]
     have HBE:Hid (Below w.heap.size w (wr.setRow g (arrB (leB 32 R)))):=yh (by rw [HG.out];exact zab HO0.out.below (Nat.le_refl _))
     obtain ⟨OUT,hOUT⟩:∃ o,arrB (leB 32 R)=o:=⟨_,rfl⟩
     rw [hOUT] at h1 iO oO sO HBE
     have HOUT:Hid (arrB (leB 32 (V % LL))=OUT):=yh (by rw [HRE.out,hOUT])
     clear HO0 hOUT hk32 hlt hk
     go_wp2_with (first
      | (refine yi h1 Tryz.underlying22 iO ?_)
      | (refine yj OUT h0 iO sO oO ?_))
     (try simp only [Exit.inBlock,Exit.then])
     refine bodyPost_ret (results_cell_row rfl _ _ g _ OUT _ _ rfl (setRow_heap _ _ _ _ _ _ h0) Tryz.underlying22 rfl iO) rfl ?_
     exact ⟨by rw [HOUT.out],HBE.out⟩
structure CaI (w wr:World) (g:Nat) (D:List Int):Prop where
 row:wr.heap[g]?=some (.cells (tabI D) 2 (0,0))
 only:Only (fun j=>j=g) w wr
theorem CaI.drew {w wr:World} {g:Nat} {D:List Int} (h:CaI w wr g D):CaI w wr.drew g D:=⟨h.row,h.only.drew⟩
theorem CaI.cell {w wr:World} {g:Nat} {D:List Int} (h:CaI w wr g D) (k:Nat) (v:Int):CaI w (wr.setCell ⟨g,k,none⟩ (.int .i64 v)) g (D.set k v) :=
 ⟨by rw [setCell_eq_setRow wr g k _ _ _ (.int .i64 v) h.row,zaR];exact setRow_heap _ _ _ _ _ _ h.row,h.only.setCell (p:=⟨g,k,none⟩) (.inl rfl) _⟩
theorem rreduce11_any (l:List UInt8) (hl:l.length=64) (W:World):Calls Tryz.prog 28 #[.agg (arrB l)] W fun e w'=>e=.returned (.agg (arrB (leB 32 (leN l % LL))))∧Below W.heap.size W w':=by
 have hz:=fun u=>zer32_zero u
 have hV:leN l<65536^34:=by have:=leN_lt l;rw [hl] at this;exact Nat.lt_trans this (by decide)
 have HDI:Hid (∀ (A:Option Addr) (W:World),Bs W A l→Calls Tryz.prog 58 #[.slice A 64 64] W (RetD W l)):=yh fun A W hb=>by
  have h:=rdigits_any A l 64 W hb (by omega)
  rwa [hl] at h
 have HMO:Hid (∀ (gd:Nat) (W:World),W.heap[gd]?=some (.cells (tabI (dgN 34 (leN l:Int))) 2 (0,0))→Calls Tryz.prog 57 #[.slice (some ⟨gd,0,none⟩) 34 34] W fun e w'=>e=.returned (.agg (arrB (leB 32 (leN l % LL))))∧Below W.heap.size W w'):=yh fun gd W h=>rmodulo_any gd _ hV W h
 have iO:(Tryz.prog.info? 22).map (·.size)=some (arrB (leB 32 (leN l % LL))).size:=info32 (zaq _ _)
 have oO:=zax (leB 32 (leN l % LL))
 have sO:zer32.size=(arrB (leB 32 (leN l % LL))).size:=by rw [zer32_size,zar,zaq]
 generalize zer32=z32 at *
 generalize arrB (leB 32 (leN l % LL))=OUT at *
 have h1:((W.alloc (.cells (arrB l) 24)).alloc (.cells z32 22)).heap[W.heap.size]?=some (.cells (arrB l) 24 (0,0)):=heap_alloc2_old _ _ _
 have h2:((W.alloc (.cells (arrB l) 24)).alloc (.cells z32 22)).heap[W.heap.size+1]?=some (.cells z32 22 (0,0)):=heap_alloc2_new _ _ _
 obtain ⟨BB,hBB⟩:∃ b,arrB l=b:=⟨_,rfl⟩
 obtain ⟨W1,hW1⟩:∃ X,(W.alloc (.cells BB 24)).alloc (.cells z32 22)=X:=⟨_,rfl⟩
 rw [hBB,hW1] at h2
 have HBS:Hid (Bs W1 (some ⟨W.heap.size,0,none⟩) l):=yh (by rw [← hW1,← hBB];exact bs_arr h1)
 have HB1:Hid (Below W.heap.size W W1):=yh (by rw [← hW1];exact below_al (below_al (Below.refl _ _) _) _)
 have HW1:=yh hW1
 have H2:=yh h2
 rw [hBB]
 clear hBB hW1 h1 h2 hV hl
 go_enter Tryz.func28,Tryz.ntmps28
 go_wp2_with fail
 rw [HW1.out]
 with_reducible refine (HDI.out _ _ HBS.out).mono ?_
 rintro e v1 ⟨gd,rfl,hd1,hgd,hb1⟩
 have HD1:=yh hd1
 have HB2:=yh (below_nx HB1.out hb1)
 have H3:Hid (v1.heap[W.heap.size+1]?=some (.cells z32 22 (0,0))):=yh (by rw [hb1.block _ (Array.getElem?_eq_some_iff.1 H2.out).1];exact H2.out)
 clear hd1 hgd hb1 HBS
 go_wp2_with fail
 with_reducible refine (HMO.out _ _ HD1.out).mono ?_
 rintro e v2 ⟨rfl,hb2⟩
 have hr2:v2.heap[W.heap.size+1]?=some (.cells z32 22 (0,0)):=by rw [hb2.block _ (Array.getElem?_eq_some_iff.1 H3.out).1];exact H3.out
 have HE:Hid (Below W.heap.size W (v2.setRow (W.heap.size+1) OUT)):=yh (zab (below_nx HB2.out hb2) (by omega))
 clear hb2
 go_wp2_with (refine yj OUT hr2 iO sO oO ?_)
 (try simp only [Exit.inBlock,Exit.then])
 refine bodyPost_ret (results_cell_row rfl _ _ (W.heap.size+1) _ OUT _ _ rfl (setRow_heap _ _ _ _ _ _ hr2) Tryz.underlying22 rfl iO) rfl ?_
 exact ⟨rfl,HE.out⟩
theorem isS {l:List UInt8} (h:l.length=32):decide (leB 32 (leN l % LL)=l)=decide (leN l<LL):=by
 apply decide_eq_decide.2
 constructor
 ·intro e
  have h1:leN (leB 32 (leN l % LL))=leN l:=by rw [e]
  rw [zbr 32 _ (Nat.lt_trans (Nat.mod_lt _ (by decide)) (show LL<256^32 by decide))] at h1
  rw [← h1];exact Nat.mod_lt _ (by decide)
 ·intro hlt
  rw [Nat.mod_eq_of_lt hlt]
  have:=leB_leN l
  rwa [h] at this
theorem guard11:Tryz.prog.eqGuardType Tryz.prog.depth 22=false:=by kernel_rfl
theorem dig32 (l:List UInt8) (hl:l.length=32):Hid (∀ (A:Option Addr) (W:World),Bs W A l→Calls Tryz.prog 58 #[.slice A 32 32] W (RetD W l)):=yh fun A W hb=>by
 have h:=rdigits_any A l 32 W hb (by omega)
 rwa [hl] at h
theorem n34_lt {l:List UInt8} (hl:l.length=32):leN l<65536^34:=by have:=leN_lt l;rw [hl] at this;exact Nat.lt_trans this (by decide)
theorem risscalar_any (l:List UInt8) (hl:l.length=32) (W0:World):Calls Tryz.prog 41 #[.agg (arrB l)] W0 fun e w'=>e=.returned (.bool (decide (leN l<LL)))∧Below W0.heap.size W0 w':=by
 rw [← isS hl]
 have HDI:=dig32 l hl
 have HMO:Hid (∀ (gd:Nat) (W:World),W.heap[gd]?=some (.cells (tabI (dgN 34 (leN l:Int))) 2 (0,0))→Calls Tryz.prog 57 #[.slice (some ⟨gd,0,none⟩) 34 34] W fun e w'=>e=.returned (.agg (arrB (leB 32 (leN l % LL))))∧Below W.heap.size W w'):=yh fun gd W h=>rmodulo_any gd _ (n34_lt hl) W h
 have heq:=fun u:World=>eqB_run (P:=Tryz.prog) 22 5 32 (leB 32 (leN l % LL)) l (zaq _ _) hl Tryz.underlying22 Tryz.underlying5 (fun w=>by kernel_rfl) (fun w=>by kernel_rfl) u
 have iL:=info32 hl
 have hg32:=guard11
 obtain ⟨res,hres⟩:∃ r,decide (leB 32 (leN l % LL)=l)=r:=⟨_,rfl⟩
 rw [hres] at heq ⊢
 generalize arrB (leB 32 (leN l % LL))=OUT at *
 obtain ⟨LA,hLA⟩:∃ a,arrB l=a:=⟨_,rfl⟩
 have HL:=yh hLA
 rw [hLA] at iL heq ⊢
 obtain ⟨W1,hW1⟩:∃ X,W0.alloc (.cells LA 22)=X:=⟨_,rfl⟩
 have h1:W1.heap[W0.heap.size]?=some (.cells LA 22 (0,0)):=by rw [← hW1];exact heap_alloc_new _ _
 have hlt:W0.heap.size<W1.heap.size:=(Array.getElem?_eq_some_iff.1 h1).1
 have HROW:Hid (∀ W,Below W1.heap.size W1 W→W.heap[W0.heap.size]?=some (.cells LA 22 (0,0))):=yh fun W h=>by rw [h.block _ hlt];exact h1
 have HB:Hid (Below W0.heap.size W0 W1):=yh (by rw [← hW1];exact below_al (Below.refl _ _) _)
 have HW1:=yh hW1
 clear hl hres hLA h1 hlt hW1
 go_enter Tryz.func41,Tryz.ntmps41
 go_upto_region 1 with fail
 rw [HW1.out]
 refine wp_region_noPanic ?_
 refine wp_region_held_drew (S:=fun W=>Below W1.heap.size W1 W) (by kernel_rfl) (by exact (Below.refl _ _).drew) (fun hS=>?_)
 refine' yk 0  hS ?_
 refine' yk 3  hS ?_ (hy:=fun W hSW=>zac rfl rfl (HROW.out W hSW) Tryz.underlying22 rfl iL)
 refine xk 1  (fun K hK=>?_)
 go_simp
 with_reducible refine (HDI.out _ _ (bs_arr (by have h:=HROW.out _ hS;rw [← HL.out] at h;exact h))).mono ?_
 rintro e v1 ⟨gd,rfl,hd1,hgd,hb1⟩
 have HD1:=yh hd1
 have kb1:=below_nx hS hb1
 clear hS hb1 hgd hd1
 refine hK.out _ _ (by exact kb1) (fun hS=>?_)
 clear hK K
 refine xk 2  (fun K hK=>?_)
 go_simp
 with_reducible refine (HMO.out _ _ HD1.out).mono ?_
 rintro e v2 ⟨rfl,hb2⟩
 have kb2:=below_nx kb1 hb2
 clear hS hb2
 refine hK.out _ _ (by exact kb2) (fun hS=>?_)
 clear hK K
 refine' yk 4  hS ?_ (hy:=fun W hSW=>za2 rfl rfl rfl hg32 (heq W))
 refine' yk 5  hS ?_
 refine wpAnyH_done (by kernel_rfl) ?_ _
 refine NoPanic.normal ?_
 clear hS
 (try simp only [Act.put])
 go_wp2_with fail
 go_ret
 exact ⟨rfl,below_nx HB.out kb2⟩
structure SuI (w wr:World) (g gx gy:Nat) (X Y:List Int) (z:Array Value):Prop where
 res:wr.heap[g]?=some (.cells z 22 (0,0))
 xx:wr.heap[gx]?=some (.cells (tabI X) 2 (0,0))
 yy:wr.heap[gy]?=some (.cells (tabI Y) 2 (0,0))
 n1:g≠gx
 n2:gy≠gx
 low:w.heap.size≤gx
 below:Below w.heap.size w wr
section
variable {w wr:World} {g gx gy:Nat} {X Y:List Int} {z:Array Value}
theorem SuI.drew (h:SuI w wr g gx gy X Y z):SuI w wr.drew g gx gy X Y z:=⟨h.res,h.xx,h.yy,h.n1,h.n2,h.low,h.below.drew⟩
theorem SuI.cell (h:SuI w wr g gx gy X Y z) (k:Nat) (v:Int):SuI w (wr.setCell ⟨gx,k,none⟩ (.int .i64 v)) g gx gy (X.set k v) Y z:=by
 rw [setCell_eq_setRow wr gx k _ _ _ (.int .i64 v) h.xx,zaR]
 exact ⟨by rw [setRow_other _ _ _ _ h.n1];exact h.res,setRow_heap _ _ _ _ _ _ h.xx,by rw [setRow_other _ _ _ _ h.n2];exact h.yy,h.n1,h.n2,h.low,zab h.below h.low⟩
end
structure MuI (w wr:World) (g gx gy gz:Nat) (X Y Z:List Int) (z:Array Value):Prop where
 res:wr.heap[g]?=some (.cells z 22 (0,0))
 xx:wr.heap[gx]?=some (.cells (tabI X) 2 (0,0))
 yy:wr.heap[gy]?=some (.cells (tabI Y) 2 (0,0))
 zz:wr.heap[gz]?=some (.cells (tabI Z) 2 (0,0))
 n0:g≠gz
 n1:gx≠gz
 n2:gy≠gz
 low:w.heap.size≤gz
 below:Below w.heap.size w wr
section
variable {w wr:World} {g gx gy gz:Nat} {X Y Z:List Int} {z:Array Value}
theorem MuI.drew (h:MuI w wr g gx gy gz X Y Z z):MuI w wr.drew g gx gy gz X Y Z z:=⟨h.res,h.xx,h.yy,h.zz,h.n0,h.n1,h.n2,h.low,h.below.drew⟩
theorem MuI.cell (h:MuI w wr g gx gy gz X Y Z z) (k:Nat) (v:Int):MuI w (wr.setCell ⟨gz,k,none⟩ (.int .i64 v)) g gx gy gz X Y (Z.set k v) z:=by
 rw [setCell_eq_setRow wr gz k _ _ _ (.int .i64 v) h.zz,zaR]
 exact ⟨by rw [setRow_other _ _ _ _ h.n0];exact h.res,by rw [setRow_other _ _ _ _ h.n1];exact h.xx,by rw [setRow_other _ _ _ _ h.n2];exact h.yy,setRow_heap _ _ _ _ _ _ h.zz,h.n0,h.n1,h.n2,h.low,zab h.below h.low⟩
end
theorem saltB_len (seed:List UInt8):(saltB seed).length=32:=by unfold saltB;rw [List.length_drop,digest_lenE]
theorem zbq (seed:List UInt8):(secB seed).length=32:=by unfold secB clampB;rw [List.length_set,List.length_set,List.length_take,digest_lenE];rfl
theorem modLL_E (x:Nat):x % LL<256^32:=Nat.lt_trans (Nat.mod_lt _ LL_pos) LL_256
theorem Ob.rowN {E:TypeId} {w:World} {base n:Nat} {v:Value} {l:List UInt8} (h:Ob E w base v l) (hn:l.length=n) (hp:0<n) :
  ∃ g c cur,v=.slice (some ⟨g,0,none⟩) n c∧base≤g∧w.heap[g]?=some (.cells cur E (0,0))∧∀ j,j<n→cur[j]?=some (.int .u8 ((l.getD j 0).toNat:Int)):=by
 subst hn
 have hk:=h
 rcases h.2 with ⟨rfl,h0⟩ | ⟨g,cap,cur,rfl,hb,hg,hnc,hcm,hcs,htake⟩
 ·omega
 ·refine ⟨g,cap,cur,rfl,hb,hg,fun j hj=>?_⟩
  have:=World.ownsRow.cellAt hk j (by omega)
  rw [cell_of_row _ _ _ _ _ _ hg] at this
  rw [this,List.getElem?_map,List.getElem?_eq_getElem hj]
  simp [bval,List.getD,List.getElem?_eq_getElem hj]
theorem srow_bs {W:World} {g n:Nat} {cur:Array Value} {E:TypeId} {l:List UInt8} (h:W.heap[g]?=some (.cells cur E (0,0))) (hc:∀ j,j<n→cur[j]?=some (.int .u8 ((l.getD j 0).toNat:Int))) (hl:l.length=n):Bs W (some ⟨g,0,none⟩) l:=fun _=>⟨g,0,rfl,fun j hj=>by rw [Nat.zero_add,cell_of_row _ _ _ _ _ _ h,hc j (by omega)]⟩
theorem byt_bs {W:World} {g x:Nat} {t:TypeId} (h:W.heap[g]?=some (.cells (bytT x) t (0,0))):Bs W (some ⟨g,0,none⟩) (leB 32 x):=row_bs h
def sigR (seed c sum:List UInt8):List UInt8:=if 255<c.length then List.replicate 64 0 else signB seed c sum
theorem prefB_le {c:List UInt8} (h:c.length≤1000):(prefB c).length≤1100:=by
 unfold prefB
 split
 ·exact Nat.zero_le _
 ·simp [domB];omega
theorem run_emp64 {a:Act} {o:Oper} (ho:o.op=.build 24 #[]) (W:World):(execOp (Act.eval a) o).run Tryz.prog W=.ok (.value (.agg zer64)) W:=by
 unfold execOp
 simp only [ho]
 kernel_rfl
abbrev EdPrefixC:Prop:=∀ (C:Option Addr) (c:List UInt8) (n k:Nat),c.length=n→c.length≤1000→∀ W:World,Bs W C c→Calls Tryz.prog 12 #[.slice C n k] W (RetOb 5 W (prefB c))
abbrev EdPublicC:Prop:=∀ l:List UInt8,l.length=32→∀ W:World,Calls Tryz.prog 14 #[.agg (arrB l)] W (RetV W (.agg (arrB (pubB l))))
abbrev EdSignC:Prop:=∀ seed:List UInt8,seed.length=32→∀ (C:Option Addr) (c:List UInt8) (n k:Nat),c.length=n→c.length≤1000→∀ sum:List UInt8,sum.length=64→∀ W:World,Bs W C c →
 Calls Tryz.prog 10 #[.agg (arrB seed),.slice C n k,.agg (arrB sum)] W (RetV W (.tuple #[.agg (arrB (sigR seed c sum)),.int .i64 (if 255<c.length then 1 else 0)]))
abbrev EdVerifyC:Prop:=∀ pub:List UInt8,pub.length=32→∀ (C:Option Addr) (c:List UInt8) (n k:Nat),c.length=n→c.length≤1000→∀ sum:List UInt8,sum.length=64→∀ sign:List UInt8,sign.length=64→∀ W:World,Bs W C c →
 Calls Tryz.prog 17 #[.agg (arrB pub),.slice C n k,.agg (arrB sum),.agg (arrB sign)] W (RetV W (.bool (verB pub c sum (sign.take 32) (sign.drop 32))))
structure EdC:Prop where
 prefix_:EdPrefixC
 pub:EdPublicC
 sign:EdSignC
 verify:EdVerifyC
theorem sigR_len (seed c sum:List UInt8):(sigR seed c sum).length=64:=by
 unfold sigR signB
 split
 ·simp
 ·rw [List.length_append,oneB_len,zaq]
theorem sigR_take {seed c sum:List UInt8} (hc:¬ 255<c.length):(sigR seed c sum).take 32=oneB seed c sum:=by
 unfold sigR signB
 rw [if_neg hc,List.take_append_of_le_length (by rw [oneB_len];exact Nat.le_refl _),List.take_of_length_le (by rw [oneB_len];exact Nat.le_refl _)]
theorem sigR_drop {seed c sum:List UInt8} (hc:¬ 255<c.length):(sigR seed c sum).drop 32=leB 32 (twoN seed c sum):=by
 unfold sigR signB
 rw [if_neg hc,List.drop_append_of_le_length (by rw [oneB_len];exact Nat.le_refl _),List.drop_of_length_le (by rw [oneB_len];exact Nat.le_refl _)]
 rfl
theorem ver_sig {seed c sum:List UInt8} (hc:¬ 255<c.length):verB (pubB seed) c sum ((sigR seed c sum).take 32) ((sigR seed c sum).drop 32)=true:=by
 rw [sigR_take hc,sigR_drop hc];exact ver_sign hc
theorem num14_any (n:Int) (w:World):Calls Tryz.prog 16 #[.int .i64 n] w (RetV w (.int .i64 n)):=by
 go_enter Tryz.func16,Tryz.ntmps16
 go_wp2
 go_ret
 exact ⟨rfl,Below.refl _ _⟩
def oneS:List UInt8:=1 :: List.replicate 31 0
def twoS:List UInt8:=2 :: List.replicate 63 0
theorem run_oneS (W:World):(Instr.build 22 #[(0,.int .u8 1)]).run Tryz.prog W=.ok (.agg (arrB oneS)) W:=by kernel_rfl
theorem run_twoS (W:World):(Instr.build 24 #[(0,.int .u8 2)]).run Tryz.prog W=.ok (.agg (arrB twoS)) W:=by kernel_rfl
theorem run_bld {a:Act} {o:Oper} {t:TypeId} {x:Int} {l:List UInt8} (hb:∀ W:World,(Instr.build t #[(0,.int .u8 x)]).run Tryz.prog W=.ok (.agg (arrB l)) W) (ho:o.op=.build t #[(0,.const (.int .u8 x))]) (W:World):(execOp (Act.eval a) o).run Tryz.prog W=.ok (.value (.agg (arrB l))) W:=by
 have h:=hb W
 unfold execOp
 simp only [ho]
 simp [Act.eval,h]
theorem lists14:∃ a b:List UInt8,a.length=32∧b.length=64∧(∀ W:World,(Instr.build 22 #[(0,.int .u8 1)]).run Tryz.prog W=.ok (.agg (arrB a)) W)∧(∀ W:World,(Instr.build 24 #[(0,.int .u8 2)]).run Tryz.prog W=.ok (.agg (arrB b)) W):=⟨oneS,twoS,rfl,rfl,run_oneS,run_twoS⟩
theorem alive14_any (D:EdC)  (w:World):Calls Tryz.prog 9 #[] w fun e w'=>e=.returned (.bool true)∧Below w.heap.size w w':=by
 have hz32:=zao
 have hz64:=zby
 obtain ⟨a0,b0,ha0,hb0,hba,hbb⟩:=lists14
 have HA0:=yh ha0
 have HB0b:=yh hb0
 have HBA:=yh hba
 have HBB:=yh hbb
 clear ha0 hb0 hba hbb
 have HR0:=yh (RowsW.nil w)
 have HB0:=yh (Below.refl w.heap.size w)
 go_enter Tryz.func9,Tryz.ntmps9
 go_wp2_with (first
   | (refine zaS (o:=⟨some 4,_,_,_,_,_⟩) rfl (.agg (arrB a0)) (run_bld HBA.out rfl _) ?_)
   | (refine zaS (o:=⟨some 5,_,_,_,_,_⟩) rfl (.agg (arrB b0)) (run_bld HBB.out rfl _) ?_))
 obtain ⟨y1,hy1⟩:∃ y_:List UInt8,sigR a0 [] b0=y_:=⟨_,rfl⟩
 have Hy1:=yh hy1
 have HNy1:Hid (y1.length=64):=yh (by rw [← hy1];exact sigR_len _ _ _)
 clear hy1
 have o6:∀ W:World,Bs W none []→Calls Tryz.prog 10 #[.agg (arrB a0),.slice none 0 0,.agg (arrB b0)] W (RetV W (.tuple #[.agg (arrB y1),.int .i64 0])):=fun W h=>by have h:=D.sign a0 HA0.out none [] 0 0 rfl (by simp) b0 HB0b.out W h;rw [Hy1.out,(if_neg (by decide):(if 255<([]:List UInt8).length then (1:Int) else 0)=0)] at h;exact h
 with_reducible refine ((fun W=>o6 W (Bs.nil_ _ _)) _).mono ?_
 rintro e vq2 ⟨rfl,hbq2⟩
 have HRq2:=yh (HR0.out.below hbq2)
 have HBq2:=yh (zaa HB0.out hbq2)
 clear hbq2
 have h0q3:(vq2.alloc (.cells zer64 24)).heap[vq2.heap.size]?=some (.cells zer64 24 (0,0)):=heap_alloc_new _ _
 have HRq3:=yh (HRq2.out.new zer64 (arrB y1) 24)
 have HBq3:=yh (zan HBq2.out zer64 (arrB y1) 24)
 have HNq3:=yh HRq2.out.ne
 have HGq3:=yh HBq2.out.size
 go_upto_region 2 with (refine yj (arrB y1) h0q3 (za7 HNy1.out) (zer64_size HNy1.out) (zax _) ?_)
 obtain ⟨Wq3,hWq3⟩:∃ W,(vq2.alloc (.cells zer64 24)).setRow vq2.heap.size (arrB y1)=W:=⟨_,rfl⟩
 obtain ⟨gq3,hgq3⟩:∃ g,vq2.heap.size=g:=⟨_,rfl⟩
 rw [hWq3,hgq3] at HRq3
 rw [hWq3] at HBq3
 rw [hgq3] at HNq3 HGq3
 rw [hWq3,hgq3]
 clear hWq3 hgq3 h0q3
 refine wp_region_noPanic ?_
 refine wp_region_held_drew (S:=fun W=>Below Wq3.heap.size Wq3 W) (by kernel_rfl) (by exact (Below.refl _ _).drew) (fun hS=>?_)
 refine' yk 0  hS ?_
 refine xk 1  (fun K hK=>?_)
 go_simp
 with_reducible refine ((fun W=>num14_any 0 W) _).mono ?_
 rintro e vq4 ⟨rfl,hbq4⟩
 have kbq4:=zaa hS hbq4
 clear hS hbq4
 refine hK.out _ _ (by exact kbq4) (fun hS=>?_)
 clear hK K
 refine' yk 2  hS ?_
 refine' yk 3  hS ?_
 refine' yk 4  hS ?_ (hy:=fun W hSW=>run_bld HBA.out rfl W)
 refine' yk 6  hS ?_ (hy:=fun W hSW=>run_bld HBB.out rfl W)
 refine' yk 7  hS ?_ (hy:=fun W hSW=>zac rfl rfl (HRq3.out.below hSW).head Tryz.underlying24 rfl (za7 HNy1.out))
 refine xk 5  (fun K hK=>?_)
 go_simp
 obtain ⟨y5,hy5⟩:∃ y_:List UInt8,pubB a0=y_:=⟨_,rfl⟩
 have Hy5:=yh hy5
 have HNy5:Hid (y5.length=32):=yh (by rw [← hy5];exact pubB_len _)
 clear hy5
 have kq6:=fun W:World=>(fun W=>D.pub a0 HA0.out W) W
 rw [Hy5.out] at kq6
 have Kq6:=yh kq6
 clear kq6
 with_reducible refine (Kq6.out _).mono ?_
 rintro e vq6 ⟨rfl,hbq6⟩
 have kbq6:=zaa kbq4 hbq6
 clear hS hbq6
 refine hK.out _ _ (by exact kbq6) (fun hS=>?_)
 clear hK K
 refine xk 8  (fun K hK=>?_)
 go_simp
 have Ht7:Hid (verB y5 [] b0 (y1.take 32) (y1.drop 32)=true):=yh (by rw [← Hy5.out,← Hy1.out];exact ver_sig (by decide))
 have o17:∀ W:World,Bs W none []→Calls Tryz.prog 17 #[.agg (arrB y5),.slice none 0 0,.agg (arrB b0),.agg (arrB y1)] W (RetV W (.bool true)):=fun W h=>by have h:=D.verify y5 HNy5.out none [] 0 0 rfl (by simp) b0 HB0b.out y1 HNy1.out W h;rw [Ht7.out] at h;exact h
 with_reducible refine ((fun W=>o17 W (Bs.nil_ _ _)) _).mono ?_
 rintro e vq8 ⟨rfl,hbq8⟩
 have kbq8:=zaa kbq6 hbq8
 clear hS hbq8
 refine hK.out _ _ (by exact kbq8) (fun hS=>?_)
 clear hK K
 refine' yk 9  hS ?_
 refine' yk 10  hS ?_
 refine wpAnyH_done (by kernel_rfl) ?_ _
 refine NoPanic.normal ?_
 clear hS
 (try simp only [Act.put])
 have HRq9:=yh (HRq3.out.below kbq8)
 have HBq9:=yh (zaa HBq3.out kbq8)
 go_wp2_with fail
 go_ret
 exact ⟨rfl,HBq9.out⟩
theorem rverify_any (pub:List UInt8) (hp:pub.length=32) (C:Option Addr) (c:List UInt8) (n k:Nat) (hn:c.length=n) (hcl:c.length≤1000) (sum:List UInt8) (hsu:sum.length=64) (sign:List UInt8) (hsg:sign.length=64) (w:World) (hc:Bs w C c) :
  Calls Tryz.prog 18 #[.agg (arrB pub),.slice C n k,.agg (arrB sum),.agg (arrB sign)] w (RetV w (.bool (verB pub c sum (sign.take 32) (sign.drop 32)))):=by
 have HPU:=yh hp
 have HSU:=yh hsu
 have HSG:=yh hsg
 clear hp hsu hsg
 have hz32:=zao
 have hz64:=zby
 have hzP:=zbd
 have HC:=yh hc
 have HCN:=yh hn
 have HCL:=yh hcl
 clear hc hn hcl
 obtain ⟨pn,hpn⟩:∃ y_,(prefB c).length=y_:=⟨_,rfl⟩
 have HPN:=yh hpn
 have HPL:Hid ((prefB c).length≤1100):=yh (prefB_le HCL.out)
 clear hpn
 have HR0:=yh ((((RowsW.nil w).box (arrB pub) 22).box (arrB sum) 24).box (arrB sign) 24)
 have HB0:=yh (zaf (zaf (zaf (Below.refl w.heap.size w) (arrB pub) 22) (arrB sum) 24) (arrB sign) 24)
 rw [World.size_alloc,World.size_alloc] at HR0
 go_enter Tryz.func18,Tryz.ntmps18
 go_upto_region 1 with fail
 obtain ⟨W0,hW0⟩:∃ W,(((w.alloc (.cells (arrB pub) 22)).alloc (.cells (arrB sum) 24)).alloc (.cells (arrB sign) 24))=W:=⟨_,rfl⟩
 obtain ⟨g0,hg0⟩:∃ g,w.heap.size=g:=⟨_,rfl⟩
 rw [hW0] at HR0 HB0
 rw [hg0] at HR0
 rw [hW0,hg0]
 have HG0:=yh hg0
 clear hW0 hg0
 have l1:=HR0.out.tail.tail.head
 go_wp2_with (refine yi l1 Tryz.underlying22 (zah HPU.out) ?_)
 obtain ⟨p2,Hp2⟩:=yx (α:=PtD) (decP pub)
 obtain ⟨b3,Hb3⟩:=yx (α:=Bool) (decF pub)
 have kq4:=fun W:World=>(rdecodeN HPU.out) W
 rw [Hp2.out,Hb3.out] at kq4
 have Kq4:=yh kq4
 clear kq4
 with_reducible refine (Kq4.out _).mono ?_
 rintro e vq4 ⟨cq4,rfl,rq4,hbq4⟩
 have Rq4:=yh rq4
 clear rq4
 have HRq4:=yh (HR0.out.below hbq4)
 have HBq4:=yh (zaa HB0.out hbq4)
 clear hbq4
 have h0q5:(vq4.alloc (.cells (refP 0 0 0 0) 58)).heap[vq4.heap.size]?=some (.cells (refP 0 0 0 0) 58 (0,0)):=heap_alloc_new _ _
 have HRq5:=yh (HRq4.out.new (refP 0 0 0 0) cq4 58)
 have HBq5:=yh (zan HBq4.out (refP 0 0 0 0) cq4 58)
 have HNq5:=yh HRq4.out.ne
 have HGq5:=yh HBq4.out.size
 go_upto_region 2 with (refine yj cq4 h0q5 (zbD Rq4.out) (rq_z Rq4.out) (rq_one Rq4.out) ?_)
 obtain ⟨Wq5,hWq5⟩:∃ W,(vq4.alloc (.cells (refP 0 0 0 0) 58)).setRow vq4.heap.size cq4=W:=⟨_,rfl⟩
 obtain ⟨gq5,hgq5⟩:∃ g,vq4.heap.size=g:=⟨_,rfl⟩
 rw [hWq5,hgq5] at HRq5
 rw [hWq5] at HBq5
 rw [hgq5] at HNq5 HGq5
 rw [hWq5,hgq5]
 clear hWq5 hgq5 h0q5
 have NEq5_0:Hid (g0≠gq5):=yh (HNq5.out (g0,(arrB pub),22) (by simp))
 have NEq5_1:Hid ((g0+1)≠gq5):=yh (HNq5.out ((g0+1),(arrB sum),24) (by simp))
 have NEq5_2:Hid ((g0+1+1)≠gq5):=yh (HNq5.out ((g0+1+1),(arrB sign),24) (by simp))
 have h0q6:(Wq5.alloc (.cells zai 22)).heap[Wq5.heap.size]?=some (.cells zai 22 (0,0)):=heap_alloc_new _ _
 have HRq6:=yh (HRq5.out.new zai zai 22)
 have HBq6:=yh (zan HBq5.out zai zai 22)
 have HNq6:=yh HRq5.out.ne
 have HGq6:=yh HBq5.out.size
 go_upto_region 3 with (refine yj zai h0q6 zero32_info rfl zero32_one ?_)
 obtain ⟨Wq6,hWq6⟩:∃ W,(Wq5.alloc (.cells zai 22)).setRow Wq5.heap.size zai=W:=⟨_,rfl⟩
 obtain ⟨gq6,hgq6⟩:∃ g,Wq5.heap.size=g:=⟨_,rfl⟩
 rw [hWq6,hgq6] at HRq6
 rw [hWq6] at HBq6
 rw [hgq6] at HNq6 HGq6
 rw [hWq6,hgq6]
 clear hWq6 hgq6 h0q6
 have NEq6_0:Hid (g0≠gq6):=yh (HNq6.out (g0,(arrB pub),22) (by simp))
 have NEq6_1:Hid ((g0+1)≠gq6):=yh (HNq6.out ((g0+1),(arrB sum),24) (by simp))
 have NEq6_2:Hid ((g0+1+1)≠gq6):=yh (HNq6.out ((g0+1+1),(arrB sign),24) (by simp))
 have NEq6_3:Hid (gq5≠gq6):=yh (HNq6.out (gq5,cq4,58) (by simp))
 have h0q7:(Wq6.alloc (.cells zai 22)).heap[Wq6.heap.size]?=some (.cells zai 22 (0,0)):=heap_alloc_new _ _
 have HRq7:=yh (HRq6.out.new zai zai 22)
 have HBq7:=yh (zan HBq6.out zai zai 22)
 have HNq7:=yh HRq6.out.ne
 have HGq7:=yh HBq6.out.size
 go_upto_region 4 with (refine yj zai h0q7 zero32_info rfl zero32_one ?_)
 obtain ⟨Wq7,hWq7⟩:∃ W,(Wq6.alloc (.cells zai 22)).setRow Wq6.heap.size zai=W:=⟨_,rfl⟩
 obtain ⟨gq7,hgq7⟩:∃ g,Wq6.heap.size=g:=⟨_,rfl⟩
 rw [hWq7,hgq7] at HRq7
 rw [hWq7] at HBq7
 rw [hgq7] at HNq7 HGq7
 rw [hWq7,hgq7]
 clear hWq7 hgq7 h0q7
 have NEq7_0:Hid (g0≠gq7):=yh (HNq7.out (g0,(arrB pub),22) (by simp))
 have NEq7_1:Hid ((g0+1)≠gq7):=yh (HNq7.out ((g0+1),(arrB sum),24) (by simp))
 have NEq7_2:Hid ((g0+1+1)≠gq7):=yh (HNq7.out ((g0+1+1),(arrB sign),24) (by simp))
 have NEq7_3:Hid (gq5≠gq7):=yh (HNq7.out (gq5,cq4,58) (by simp))
 have NEq7_4:Hid (gq6≠gq7):=yh (HNq7.out (gq6,zai,22) (by simp))
 obtain ⟨S0,hS0⟩:∃ y_,sign.drop 32=y_:=⟨_,rfl⟩
 have HS0:Hid (S0.length=32):=yh (by rw [← hS0,List.length_drop,HSG.out])
 have HSD:=yh hS0
 clear hS0
 have hcz:∀ h,arrB (cpB h 0)=zai:=cpB_zero
 go_wp2_with fail
 go_loopw [13] (fun i wr=>∃ k:Nat,k≤32∧i=.int .i64 (k:Int)∧Hid (RowsW wr [(gq7,arrB (cpB S0 k),22),(gq6,arrB (cpB sign k),22),(gq5,cq4,58),((g0+1+1),(arrB sign),24),((g0+1),(arrB sum),24),(g0,(arrB pub),22)])∧Hid (Below w.heap.size w wr)) (fun i _=>32-(intOf i).toNat)
 case atStart=>exact ⟨0,by omega,rfl,by rw [hcz,hcz];exact HRq7,HBq7⟩
 case round =>
  clear HRq7 hcz
  obtain ⟨k_,hk,rfl,HR1,HB1⟩:=hrel
  by_cases hlt:k_<32
  ·obtain ⟨m_,hm_⟩:∃ m:Nat,32+k_=m:=⟨_,rfl⟩
   obtain ⟨x,hx⟩:∃ x:UInt8,sign.getD k_ 0=x:=⟨_,rfl⟩
   obtain ⟨y,hy⟩:∃ y:UInt8,S0.getD k_ 0=y:=⟨_,rfl⟩
   have hy2:sign.getD m_ 0=y:=by rw [← hy,← HSD.out,← hm_];simp only [List.getD,List.getElem?_drop]
   have cx:wr.cell? ⟨(g0+1+1),k_,none⟩=some (.int .u8 (x.toNat:Int)):=by rw [cell_of_row _ _ _ _ _ _ HR1.out.tail.tail.tail.head,zaE _ _ (by rw [HSG.out];omega),hx]
   have co:wr.cell? ⟨gq6,k_,none⟩=some (.int .u8 (((cpB sign k_).getD k_ 0).toNat:Int)):=by rw [cell_of_row _ _ _ _ _ _ HR1.out.tail.head,zaE _ _ (by rw [cpB_len (by rw [HSG.out];omega) hk];exact hlt)]
   have fo:=za4 HR1.out.tail.head k_
   obtain ⟨t,ht⟩:∃ t:Int,(x.toNat:Int)=t:=⟨_,rfl⟩
   obtain ⟨u,hu⟩:∃ t:Int,(y.toNat:Int)=t:=⟨_,rfl⟩
   have e1:=setCell_eq_setRow wr gq6 k_ _ _ _ (.int .u8 (x.toNat:Int)) HR1.out.tail.head
   rw [za3,← hx,cpB_set (by rw [HSG.out];omega) hlt,hx,ht] at e1
   have hs1:RowsW (wr.setCell ⟨gq6,k_,none⟩ (.int .u8 t)) [(gq7,arrB (cpB S0 k_),22),(gq6,arrB (cpB sign (k_+1)),22),(gq5,cq4,58),((g0+1+1),(arrB sign),24),((g0+1),(arrB sum),24),(g0,(arrB pub),22)]:=by
    rw [e1]
    exact ⟨by rw [setRow_other _ _ _ _ (Ne.symm NEq7_4.out)];exact HR1.out.head,setRow_heap _ _ _ _ _ _ HR1.out.tail.head,by rw [setRow_other _ _ _ _ NEq6_3.out];exact HR1.out.tail.tail.head,by rw [setRow_other _ _ _ _ NEq6_2.out];exact HR1.out.tail.tail.tail.head,by rw [setRow_other _ _ _ _ NEq6_1.out];exact HR1.out.tail.tail.tail.tail.head,by rw [setRow_other _ _ _ _ NEq6_0.out];exact HR1.out.tail.tail.tail.tail.tail.head,trivial⟩
   have cy:(wr.setCell ⟨gq6,k_,none⟩ (.int .u8 t)).cell? ⟨(g0+1+1),m_,none⟩=some (.int .u8 (y.toNat:Int)):=by rw [cell_of_row _ _ _ _ _ _ hs1.tail.tail.tail.head,zaE _ _ (by rw [HSG.out];omega),hy2]
   have cp:(wr.setCell ⟨gq6,k_,none⟩ (.int .u8 t)).cell? ⟨gq7,k_,none⟩=some (.int .u8 (((cpB S0 k_).getD k_ 0).toNat:Int)):=by rw [cell_of_row _ _ _ _ _ _ hs1.head,zaE _ _ (by rw [cpB_len (by rw [HS0.out];omega) hk];exact hlt)]
   have fp:=za4 hs1.head k_
   have hs2:=hs1.set (fun r hr=>by simp only [List.mem_cons,List.not_mem_nil,or_false] at hr;rcases hr with rfl | rfl | rfl | rfl | rfl;exact NEq7_4.out;exact NEq7_3.out;exact NEq7_2.out;exact NEq7_1.out;exact NEq7_0.out) k_ (.int .u8 (y.toNat:Int))
   rw [za3,← hy,cpB_set (by rw [HS0.out];omega) hlt,hy,hu] at hs2
   rw [ht] at cx
   rw [hu] at cy
   have HR2:=yh hs2
   have HB2:=yh ((HB1.out.setCell (p:=⟨gq6,k_,none⟩) (by show w.heap.size≤gq6;exact HGq6.out) (.int .u8 t)).setCell (p:=⟨gq7,k_,none⟩) (by show w.heap.size≤gq7;exact HGq7.out) (.int .u8 u))
   generalize ((cpB sign k_).getD k_ 0)=old at *
   generalize ((cpB S0 k_).getD k_ 0)=old2 at *
   have b5:0≤(k_:Int):=by omega
   have b6:(k_:Int)<32:=by omega
   have b7:(k_:Int)<64:=by omega
   have b8:IntKind.i64.wrap ((32:Int)+(k_:Int))=(m_:Int):=by rw [IntKind.wrap_i64];omega
   have b9:(m_:Int)<64:=by omega
   have b10:0≤(m_:Int):=by omega
   have b11:(32:Int)+(k_:Int)=(m_:Int):=by omega
   have b12:IntKind.i64.wrap (m_:Int)=(m_:Int):=by rw [IntKind.wrap_i64];omega
   clear HR1 HB1 hs1 hs2 hx hy hy2 ht hu hm_ e1
   go_wp2_with fail
   go_roundw
   case rel=>exact ⟨k_+1,by omega,by go_num,HR2,HB2⟩
   case measure=>simp [intOf] <;> omega
  ·obtain rfl:k_=32:=by omega
   rw [cpB_end,cpB_end,List.take_of_length_le (show S0.length≤32 by rw [HS0.out];exact Nat.le_refl _)] at HR1
   obtain ⟨R0,hR0⟩:∃ y_,sign.take 32=y_:=⟨_,rfl⟩
   have HR0L:Hid (R0.length=32):=yh (by rw [← hR0,List.length_take,HSG.out];rfl)
   have HRD:=yh hR0
   rw [hR0] at HR1
   clear hR0 hlt hk
   by_cases hb:255<n
   ·have d1:decide ((255:Int)<(n:Int))=true:=decide_eq_true (by omega)
    have hv:=ver_long (pub:=pub) (c:=c) (sum:=sum) (r:=R0) (s:=S0) (by rw [HCN.out];exact hb)
    clear hb
    go_wp2_with fail
    go_ret
    exact ⟨by rw [HRD.out,HSD.out,hv] <;> rfl,HB1.out⟩
   ·have d1:decide ((255:Int)<(n:Int))=false:=decide_eq_false (by omega)
    have HBC:Hid (¬ 255<c.length):=yh (by rw [HCN.out];exact hb)
    clear hb
    cases b3
    ·skip
     have hv:verB pub c sum R0 S0=false:=by unfold verB;rw [Hb3.out,Bool.false_and,Bool.and_false]
     go_wp2_with fail
     go_ret
     exact ⟨by rw [HRD.out,HSD.out,hv] <;> rfl,HB1.out⟩
    ·skip
     cases hl:decide (leN S0<LL)
     ·have HLT:=yh hl
      clear hl
      have l8:=HR1.out.head
      go_wp2_with (refine zaj (o:=⟨some 45,_,_,_,_,_⟩) rfl (.agg (arrB S0)) (zac rfl rfl l8 Tryz.underlying22 rfl (zah HS0.out)) ?_)
      have Ht9:Hid (decide (leN S0<LL)=false):=yh HLT.out
      have kq10:=fun W:World=>(fun W=>risscalar_any S0 HS0.out W) W
      rw [Ht9.out] at kq10
      have Kq10:=yh kq10
      clear kq10
      with_reducible refine (Kq10.out _).mono ?_
      rintro e vq10 ⟨rfl,hbq10⟩
      have HRq10:=yh (HR1.out.below hbq10)
      have HBq10:=yh (zaa HB1.out hbq10)
      clear hbq10
      have hv:verB pub c sum R0 S0=false:=by unfold verB;rw [HLT.out,Bool.false_and,Bool.and_false,Bool.and_false]
      go_wp2_with fail
      go_ret
      exact ⟨by rw [HRD.out,HSD.out,hv] <;> rfl,HBq10.out⟩
     ·have HLT:=yh hl
      clear hl
      have l11:=HR1.out.head
      go_wp2_with (refine zaj (o:=⟨some 45,_,_,_,_,_⟩) rfl (.agg (arrB S0)) (zac rfl rfl l11 Tryz.underlying22 rfl (zah HS0.out)) ?_)
      have Ht12:Hid (decide (leN S0<LL)=true):=yh HLT.out
      have kq13:=fun W:World=>(fun W=>risscalar_any S0 HS0.out W) W
      rw [Ht12.out] at kq13
      have Kq13:=yh kq13
      clear kq13
      with_reducible refine (Kq13.out _).mono ?_
      rintro e vq13 ⟨rfl,hbq13⟩
      have HRq13:=yh (HR1.out.below hbq13)
      have HBq13:=yh (zaa HB1.out hbq13)
      clear hbq13
      go_upto_region 11 with fail
      refine wp_region_noPanic ?_
      refine zbB 8 14 22 zai (by kernel_rfl) (by kernel_rfl) ⟨by kernel_rfl,by kernel_rfl,hz32,fun _ _ _ h=>h⟩ (fun hA ok hS=>?_)
      refine' zbh 0 hA ok rfl (by kernel_rfl) (by kernel_rfl) (by kernel_rfl) (by kernel_rfl) (by kernel_rfl) (by rfl) (by rfl) hS ?_ ?_ ?_
      rotate_left 2
      ·intro W hSW;go_simp;try with_reducible rfl
      ·simp only [List.set_cons_succ,List.set_cons_zero];rfl
      refine' zbh 2 hA ok rfl (by kernel_rfl) (by kernel_rfl) (by kernel_rfl) (by kernel_rfl) (by kernel_rfl) (by rfl) (by rfl) hS ?_ ?_ ?_
      rotate_left 2
      ·intro W hSW;go_simp;try with_reducible rfl
      ·simp only [List.set_cons_succ,List.set_cons_zero];rfl
      refine' zbh 3 hA ok rfl (by kernel_rfl) (by kernel_rfl) (by kernel_rfl) (by kernel_rfl) (by kernel_rfl) (by rfl) (by rfl) hS ?_ ?_ ?_
      rotate_left 2
      ·intro W hSW;go_simp;try with_reducible rfl
      ·simp only [List.set_cons_succ,List.set_cons_zero];rfl
      refine' zbh 4 hA ok rfl (by kernel_rfl) (by kernel_rfl) (by kernel_rfl) (by kernel_rfl) (by kernel_rfl) (by rfl) (by rfl) hS ?_ ?_ ?_
      rotate_left 2
      ·intro W hSW;go_simp;try with_reducible rfl
      ·simp only [List.set_cons_succ,List.set_cons_zero];rfl
      refine zbG 1 hA ok rfl (by kernel_rfl) (by kernel_rfl) (by kernel_rfl) (by kernel_rfl) (by rfl) (by rfl) hS (fun oq14 Xq14 hS K hK=>?_)
      have o50:∀ W:World,Bs W C c→Calls Tryz.prog 13 #[.slice C n k] W (RetOb 5 W (prefB c)):=fun W h=>by have:=rprefix_any C c k W h (Nat.le_trans HCL.out (by decide));rw [HCN.out] at this;exact this
      go_simp
      with_reducible refine ((fun (_:World)=>o50 _ (HC.out.below (zaa HBq13.out (ok.low _ (HS.s hS))))) Xq14).mono ?_
      rintro e vq14 ⟨xq14,rfl,hoq14,hbq14⟩
      obtain ⟨Aq14,cq14,rfl,-,-⟩:=hoq14.formL HPN.out
      refine hK.out _ _ hbq14 (fun hS=>?_)
      clear hK K
      refine XS.mono (S2:=fun W=>(Below vq13.heap.size vq13 W)∧Ob 5 W Xq14.heap.size (.slice Aq14 pn cq14) (prefB c)) (fun _ h=>h.1) ?_
      replace ok:=ok.ob (E:=5) (base:=Xq14.heap.size) (v:=.slice Aq14 pn cq14) (l:=(prefB c)) (by decide)
      replace hS:HS _ _ _ (fun W=>(Below vq13.heap.size vq13 W)∧Ob 5 W Xq14.heap.size (.slice Aq14 pn cq14) (prefB c)) _ _:=⟨⟨HS.s hS,hoq14⟩,hS.2⟩
      refine zbG 5 hA ok rfl (by kernel_rfl) (by kernel_rfl) (by kernel_rfl) (by kernel_rfl) (by rfl) (by rfl) hS (fun oq15 Xq15 hS K hK=>?_)
      obtain ⟨j16,hj16⟩:∃ y_:List UInt8,(prefB c)++R0++pub++sum=y_:=⟨_,rfl⟩
      have Hj16:=yh hj16
      obtain ⟨nj16,hnj16⟩:∃ y_:Nat,j16.length=y_:=⟨_,rfl⟩
      have HNj16:=yh hnj16
      have HBj16:Hid (j16.length≤2000):=yh (by rw [← hj16];simp only [List.length_append,HR0L.out,HPU.out,HSU.out];have:=HPL.out;omega)
      clear hj16 hnj16
      go_simp
      have kq15:=(fun (_:World)=>rjoined_any Aq14 (some ⟨gq6,0,none⟩) (some ⟨g0,0,none⟩) (some ⟨(g0+1),0,none⟩) ((prefB c)) (R0) (pub) (sum) pn 32 32 64 cq14 32 32 64 _ (Ob.bs ((HS.s hS).2)) (row_bs ((HRq13.out.below (ok.low _ (HS.s hS))).tail.head)) (row_bs ((HRq13.out.below (ok.low _ (HS.s hS))).tail.tail.tail.tail.tail.head)) (row_bs ((HRq13.out.below (ok.low _ (HS.s hS))).tail.tail.tail.tail.head)) HPN.out HR0L.out HPU.out HSU.out (Nat.le_trans HPL.out (by decide)) (by rw [HR0L.out];decide) (by rw [HPU.out];decide) (by rw [HSU.out];decide)) Xq15
      rw [Hj16.out] at kq15
      with_reducible refine kq15.mono ?_
      rintro e vq15 ⟨xq15,rfl,hoq15,hbq15⟩
      obtain ⟨Aq15,cq15,rfl,-,-⟩:=hoq15.formL HNj16.out
      refine hK.out _ _ hbq15 (fun hS=>?_)
      clear hK K
      refine XS.mono (S2:=fun W=>((Below vq13.heap.size vq13 W)∧Ob 5 W Xq14.heap.size (.slice Aq14 pn cq14) (prefB c))∧Ob 5 W Xq15.heap.size (.slice Aq15 nj16 cq15) j16) (fun _ h=>h.1) ?_
      replace ok:=ok.ob (E:=5) (base:=Xq15.heap.size) (v:=.slice Aq15 nj16 cq15) (l:=j16) (by decide)
      replace hS:HS _ _ _ (fun W=>((Below vq13.heap.size vq13 W)∧Ob 5 W Xq14.heap.size (.slice Aq14 pn cq14) (prefB c))∧Ob 5 W Xq15.heap.size (.slice Aq15 nj16 cq15) j16) _ _:=⟨⟨HS.s hS,hoq15⟩,hS.2⟩
      refine zbG 6 hA ok rfl (by kernel_rfl) (by kernel_rfl) (by kernel_rfl) (by kernel_rfl) (by rfl) (by rfl) hS (fun oq17 Xq17 hS K hK=>?_)
      have o55:∀ W:World,Bs W Aq15 j16→Calls Tryz.prog 29 #[.slice Aq15 nj16 cq15] W (RetV W (.agg (arrB (zbg j16)))):=fun W h=>by have:=rof_any Aq15 j16 cq15 W h (Nat.le_trans HBj16.out (by decide));rw [HNj16.out] at this;exact this
      go_simp
      with_reducible refine ((fun (_:World)=>o55 _ (Ob.bs ((HS.s hS).2))) Xq17).mono ?_
      rintro e vq17 ⟨rfl,hbq17⟩
      refine hK.out _ _ hbq17 (fun hS=>?_)
      clear hK K hbq17
      refine zbG 7 hA ok rfl (by kernel_rfl) (by kernel_rfl) (by kernel_rfl) (by kernel_rfl) (by rfl) (by rfl) hS (fun oq18 Xq18 hS K hK=>?_)
      obtain ⟨n19,hn19⟩:∃ x_:Nat,leN (zbg j16) % LL=x_:=⟨_,rfl⟩
      have Hn19:=yh hn19
      have HMn19:Hid (n19<256^32):=yh (by rw [← hn19];exact modLL_E _)
      clear hn19
      go_simp
      have kq18:=fun W:World=>(fun W=>rreduce11_any (zbg j16) (digest_lenE _) W) W
      rw [Hn19.out] at kq18
      have Kq18:=yh kq18
      clear kq18
      with_reducible refine (Kq18.out _).mono ?_
      rintro e vq18 ⟨rfl,hbq18⟩
      refine hK.out _ _ hbq18 (fun hS=>?_)
      clear hK K hbq18
      refine' store_atS 9 hA ok rfl (by kernel_rfl) (by kernel_rfl) (by kernel_rfl) hS (by kernel_rfl) rfl (by intro h;cases h) (zaO _) (zbc _) (zbJ _) ?_ ?_
      rotate_left 1
      ·intro g;simp only [List.set_cons_succ,List.set_cons_zero];rfl
      intro gq20 Wq20 hgq20 hsq20 hrowq20
      have hbq20:=ok.low _ hsq20
      clear hA hS
      refine wpAnyH_done (by kernel_rfl) ?_ _
      refine NoPanic.normal ?_
      (try simp only [Act.put])
      have HRq20:Hid (RowsW Wq20 [(gq20,(bytT n19),22),(gq7,(arrB S0),22),(gq6,(arrB R0),22),(gq5,cq4,58),((g0+1+1),(arrB sign),24),((g0+1),(arrB sum),24),(g0,(arrB pub),22)]):=yh ⟨hrowq20,HRq13.out.below hbq20⟩
      have HBq20:=yh (zaa HBq13.out hbq20)
      have NEq20_0:Hid (g0≠gq20):=yh (by have h:=HRq13.out.lt (g0,(arrB pub),22) (by simp);have:=hgq20;simp only at h;omega)
      have NEq20_1:Hid ((g0+1)≠gq20):=yh (by have h:=HRq13.out.lt ((g0+1),(arrB sum),24) (by simp);have:=hgq20;simp only at h;omega)
      have NEq20_2:Hid ((g0+1+1)≠gq20):=yh (by have h:=HRq13.out.lt ((g0+1+1),(arrB sign),24) (by simp);have:=hgq20;simp only at h;omega)
      have NEq20_3:Hid (gq5≠gq20):=yh (by have h:=HRq13.out.lt (gq5,cq4,58) (by simp);have:=hgq20;simp only at h;omega)
      have NEq20_4:Hid (gq6≠gq20):=yh (by have h:=HRq13.out.lt (gq6,(arrB R0),22) (by simp);have:=hgq20;simp only at h;omega)
      have NEq20_5:Hid (gq7≠gq20):=yh (by have h:=HRq13.out.lt (gq7,(arrB S0),22) (by simp);have:=hgq20;simp only at h;omega)
      have HGq20:=yh (Nat.le_trans HBq13.out.size hgq20)
      clear hrowq20 hbq20 hgq20 hsq20 ok
      go_upto_region 12 with fail
      refine wp_region_noPanic ?_
      refine wp_region_held_drew (S:=fun W=>Below Wq20.heap.size Wq20 W) (by kernel_rfl) (by exact (Below.refl _ _).drew) (fun hS=>?_)
      refine' yk 0  hS ?_ (hy:=fun W hSW=>zac rfl rfl (HRq20.out.below hSW).tail.head Tryz.underlying22 rfl (zah HS0.out))
      refine' yk 3  hS ?_ (hy:=fun W hSW=>zac rfl rfl (HRq20.out.below hSW).head Tryz.underlying22 rfl (zaO _))
      refine' yk 4  hS ?_ (hy:=fun W hSW=>zac rfl rfl (HRq20.out.below hSW).tail.tail.tail.head Tryz.underlying58 rfl (zbD Rq4.out))
      refine' yk 9  hS ?_ (hy:=fun W hSW=>zac rfl rfl (HRq20.out.below hSW).tail.tail.head Tryz.underlying22 rfl (zah HR0L.out))
      refine xk 1  (fun K hK=>?_)
      go_simp
      with_reducible refine ((fun W=>rbaseN W) _).mono ?_
      rintro e vq21 ⟨cq21,rfl,rq21,hbq21⟩
      have Rq21:=yh rq21
      clear rq21
      have kbq21:=zaa hS hbq21
      clear hS hbq21
      refine hK.out _ _ (by exact kbq21) (fun hS=>?_)
      clear hK K
      refine xk 2  (fun K hK=>?_)
      go_simp
      obtain ⟨p22,Hp22⟩:=yx (α:=PtD) (pmul (leN S0) F25519.base)
      with_reducible refine ((rmult_any HS0.out Rq21.out) _).mono ?_
      rintro e vq23 ⟨cq23,rfl,rq23,hbq23⟩
      rw [Hp22.out] at rq23
      have Rq23:=yh rq23
      clear rq23
      have kbq23:=zaa kbq21 hbq23
      clear hS hbq23
      refine hK.out _ _ (by exact kbq23) (fun hS=>?_)
      clear hK K
      refine xk 5  (fun K hK=>?_)
      go_simp
      obtain ⟨p24,Hp24⟩:=yx (α:=PtD) (pmul (n19) p2)
      have o62:∀ W:World,Calls Tryz.prog 32 #[.agg (bytT n19),.agg cq4] W (RetPt RQ W (pmul (n19) p2)):=fun W=>by have h:=(rmult_any (zaq 32 n19) Rq4.out) W;rw [zbr 32 n19 HMn19.out] at h;exact h
      with_reducible refine ((fun W=>o62 W) _).mono ?_
      rintro e vq25 ⟨cq25,rfl,rq25,hbq25⟩
      rw [Hp24.out] at rq25
      have Rq25:=yh rq25
      clear rq25
      have kbq25:=zaa kbq23 hbq25
      clear hS hbq25
      refine hK.out _ _ (by exact kbq25) (fun hS=>?_)
      clear hK K
      refine xk 6  (fun K hK=>?_)
      go_simp
      obtain ⟨p26,Hp26⟩:=yx (α:=PtD) (Ed.Pt.neg p24)
      with_reducible refine ((rturn_any Rq25.out) _).mono ?_
      rintro e vq27 ⟨cq27,rfl,rq27,hbq27⟩
      rw [Hp26.out] at rq27
      have Rq27:=yh rq27
      clear rq27
      have kbq27:=zaa kbq25 hbq27
      clear hS hbq27
      refine hK.out _ _ (by exact kbq27) (fun hS=>?_)
      clear hK K
      refine xk 7  (fun K hK=>?_)
      go_simp
      obtain ⟨p28,Hp28⟩:=yx (α:=PtD) (padd p22 p26)
      with_reducible refine ((rplus_any Rq23.out Rq27.out) _).mono ?_
      rintro e vq29 ⟨cq29,rfl,rq29,hbq29⟩
      rw [Hp28.out] at rq29
      have Rq29:=yh rq29
      clear rq29
      have kbq29:=zaa kbq27 hbq29
      clear hS hbq29
      refine hK.out _ _ (by exact kbq29) (fun hS=>?_)
      clear hK K
      refine xk 8  (fun K hK=>?_)
      go_simp
      with_reducible refine ((rencode_any Rq29.out) _).mono ?_
      rintro e vq30 ⟨rfl,hbq30⟩
      have kbq30:=zaa kbq29 hbq30
      clear hS hbq30
      refine hK.out _ _ (by exact kbq30) (fun hS=>?_)
      clear hK K
      refine' yk 10  hS ?_ (hy:=fun W hSW=>za2 rfl rfl rfl guardB (eqByt (zaq 32 (F25519.encN p28)) HR0L.out W))
      refine' yk 11  hS ?_
      refine wpAnyH_done (by kernel_rfl) ?_ _
      refine NoPanic.normal ?_
      clear hS
      (try simp only [Act.put])
      have HRq31:=yh (HRq20.out.below kbq30)
      have HBq31:=yh (zaa HBq20.out kbq30)
      have hv:verB pub c sum R0 S0=decide (leB 32 (F25519.encN p28)=R0):=by
       have hk:chaN R0 pub c sum=n19:=by unfold chaN;rw [← Hn19.out,← Hj16.out]
       have hp:verP pub c sum R0 S0=p28:=by unfold verP;rw [hk,Hp2.out,Hp22.out,Hp24.out,Hp26.out];exact Hp28.out
       unfold verB
       rw [decide_eq_false HBC.out,Hb3.out,HLT.out,hp]
       rfl
      go_wp2_with fail
      go_ret
      exact ⟨by rw [HRD.out,HSD.out,hv] <;> rfl,HBq31.out⟩
theorem law14Verifies (D:EdC) (w:World) (pub:List UInt8) (hpub:pub.length=32) (C:Option Addr) (c:List UInt8) (n k:Nat) (hn:c.length=n) (sum:List UInt8) (hsum:sum.length=64) (sign:List UInt8) (hsign:sign.length=64) (hc:Bs w C c):Calls Tryz.prog 4 #[.agg (arrB pub),.slice C n k,.agg (arrB sum),.agg (arrB sign)] w fun e w'=>e=.returned (.bool true)∧Below w.heap.size w w':=by
 have HAL:Hid (∀ W:World,Calls Tryz.prog 9 #[] W fun e w'=>e=.returned (.bool true)∧Below W.heap.size W w'):=yh (fun W=>alive14_any D W)
 have hz32:=zao
 have hz64:=zby
 have Hpub:=yh hpub
 have Hsum:=yh hsum
 have Hsign:=yh hsign
 have HC:=yh hc
 have HCN:=yh hn
 clear hc hn hpub hsum hsign
 have HR0:=yh ((((RowsW.nil w).box (arrB pub) 22).box (arrB sum) 24).box (arrB sign) 24)
 have HB0:=yh (zaf (zaf (zaf (Below.refl w.heap.size w) (arrB pub) 22) (arrB sum) 24) (arrB sign) 24)
 rw [World.size_alloc,World.size_alloc] at HR0
 go_enter Tryz.func4,Tryz.ntmps4
 go_wp2_with fail
 obtain ⟨W0,hW0⟩:∃ W,(((w.alloc (.cells (arrB pub) 22)).alloc (.cells (arrB sum) 24)).alloc (.cells (arrB sign) 24))=W:=⟨_,rfl⟩
 obtain ⟨g0,hg0⟩:∃ g,w.heap.size=g:=⟨_,rfl⟩
 rw [hW0] at HR0 HB0
 rw [hg0] at HR0
 rw [hW0,hg0]
 have HG0:=yh hg0
 clear hW0 hg0
 with_reducible refine (HAL.out _).mono ?_
 rintro e v1 ⟨rfl,hb1⟩
 have HR1:=yh (HR0.out.below hb1)
 have HB1:=yh (zaa HB0.out hb1)
 clear hb1
 by_cases hb:300<n
 ·have d1:decide ((300:Int)<(n:Int))=true:=decide_eq_true (by omega)
  clear hb
  go_wp2_with fail
  go_ret
  exact ⟨rfl,HB1.out⟩
 ·have d1:decide ((300:Int)<(n:Int))=false:=decide_eq_false (by omega)
  have HCL:Hid (c.length≤1000):=yh (by rw [HCN.out];omega)
  clear hb
  go_upto_region 4 with fail
  refine wp_region_noPanic ?_
  refine wp_region_held_drew (S:=fun W=>Below v1.heap.size v1 W) (by kernel_rfl) (by exact (Below.refl _ _).drew) (fun hS=>?_)
  refine' yk 0  hS ?_ (hy:=fun W hSW=>zac rfl rfl (HR1.out.below hSW).tail.tail.head Tryz.underlying22 rfl (zah Hpub.out))
  refine' yk 1  hS ?_
  refine' yk 3  hS ?_ (hy:=fun W hSW=>zac rfl rfl (HR1.out.below hSW).tail.head Tryz.underlying24 rfl (za7 Hsum.out))
  refine' yk 4  hS ?_ (hy:=fun W hSW=>zac rfl rfl (HR1.out.below hSW).head Tryz.underlying24 rfl (za7 Hsign.out))
  refine' yk 6  hS ?_ (hy:=fun W hSW=>zac rfl rfl (HR1.out.below hSW).tail.tail.head Tryz.underlying22 rfl (zah Hpub.out))
  refine' yk 7  hS ?_
  refine' yk 8  hS ?_ (hy:=fun W hSW=>zac rfl rfl (HR1.out.below hSW).tail.head Tryz.underlying24 rfl (za7 Hsum.out))
  refine' yk 9  hS ?_ (hy:=fun W hSW=>zac rfl rfl (HR1.out.below hSW).head Tryz.underlying24 rfl (za7 Hsign.out))
  refine xk 2  (fun K hK=>?_)
  refine wp_append_bs (ops:=#[]) rfl (.const (.slice none 0 0)) (.tmp 20) 23 rfl w.heap.size 5 Tryz.underlying23 info5 (.slice none 0 0) [] rfl (Ob.nil_ _ _ _) C c n k rfl HCN.out.symm (HC.out.below HB1.out.drew) (by have:=HCL.out;simp only [List.length_nil];omega) HB1.out.drew.size ?_
  intro va1 wa1 hoa1 hgra1
  rw [List.nil_append] at hoa1
  obtain ⟨Aa1,ca1,rfl,-,-⟩:=hoa1.formL HCN.out
  have kSa1:Below v1.heap.size v1 wa1:=zaa (Below.refl _ _).drew (below_of_grown hgra1)
  refine hK.out _ _ (by exact kSa1) (fun hS=>?_)
  clear hK K
  refine held_mono (S2:=fun W=>Below wa1.heap.size wa1 W) (fun W hW=>kSa1.trans (hW.mono kSa1.size)) _ _ _ _ ?_
  replace hS:Below wa1.heap.size wa1 wa1:=Below.refl _ _
  have HCa1:=yh (Ob.bs hoa1)
  have HRa1:=yh (HR1.out.below kSa1)
  have HBa1:=yh (zaa HB1.out kSa1)
  clear hoa1 hgra1
  refine xk 5  (fun K hK=>?_)
  go_simp
  obtain ⟨b2,Hb2⟩:=yx (α:=Bool) (verB pub c sum (sign.take 32) (sign.drop 32))
  have o24:∀ W:World,Bs W Aa1 c→Calls Tryz.prog 17 #[.agg (arrB pub),.slice Aa1 n ca1,.agg (arrB sum),.agg (arrB sign)] W (RetV W (.bool b2)):=fun W h=>by have h:=D.verify pub Hpub.out Aa1 c n ca1 HCN.out HCL.out sum Hsum.out sign Hsign.out W h;rw [Hb2.out] at h;exact h
  with_reducible refine ((fun (_:World)=>o24 _ (HCa1.out.below hS)) w).mono ?_
  rintro e vq3 ⟨rfl,hbq3⟩
  have kbq3:=zaa hS hbq3
  clear hS hbq3
  refine hK.out _ _ (by exact kbq3) (fun hS=>?_)
  clear hK K
  refine xk 10  (fun K hK=>?_)
  go_simp
  have o29:∀ W:World,Bs W C c→Calls Tryz.prog 18 #[.agg (arrB pub),.slice C n k,.agg (arrB sum),.agg (arrB sign)] W (RetV W (.bool b2)):=fun W h=>by have h:=rverify_any pub Hpub.out C c n k HCN.out HCL.out sum Hsum.out sign Hsign.out W h;rw [Hb2.out] at h;exact h
  with_reducible refine ((fun (_:World)=>o29 _ (HC.out.below (zaa HBa1.out kbq3))) w).mono ?_
  rintro e vq4 ⟨rfl,hbq4⟩
  have kbq4:=zaa kbq3 hbq4
  clear hS hbq4
  refine hK.out _ _ (by exact kbq4) (fun hS=>?_)
  clear hK K
  refine' yk 11  hS ?_
  refine' yk 12  hS ?_
  refine wpAnyH_done (by kernel_rfl) ?_ _
  refine NoPanic.normal ?_
  clear hS
  (try simp only [Act.put])
  have HRq5:=yh (HRa1.out.below kbq4)
  have HBq5:=yh (zaa HBa1.out kbq4)
  go_wp2_with fail
  go_ret
  exact ⟨rfl,HBq5.out⟩
end Go.Proofs.YtkgodlcnoenmbaaGreat
namespace Go.Proofs.YtkgodlcnoenmbaaGreat
open Go.RowKit
set_option linter.unusedVariables false
set_option maxRecDepth 100000
def wordsV (l:List UInt8):List W64:=if l.length=128 then zbe l else List.replicate 16 0
end Go.Proofs.YtkgodlcnoenmbaaGreat
namespace Go.Proofs.YtkgodlcnoenmbaaGreat
open Go.RowKit
set_option linter.unusedVariables false
set_option maxRecDepth 100000
theorem run_load_row {P:Program} {ρ:Operand→Value} {o:Oper} {w:World} {ty:TypeId} {x:Operand} (ho:o.op=.load ty x) {g:Nat} (hx:ρ x=.pointer (some ⟨g,0,none⟩)) {t:TypeId} {cs:Array Value} {fr:Nat × Nat} {d:TypeDesc} (hg:w.heap[g]?=some (.cells cs t fr))
  (hu:P.underlying ty=some d) (hd:(match d with | .struct _ | .array _ _=>true | _=>false)=true) (hi:(P.info? ty).map (·.size)=some cs.size) :
  (execOp ρ o).run P w=.ok (.value (.agg cs)) w:=by
 unfold execOp
 simp only [ho,hx,Instr.loadAt,Instr.sureAddr,Sem.run_bind,Sem.run_pure,Result.andThen_ok,run_loadVar_row w g t ty cs fr d hg hu hd hi]
end Go.Proofs.YtkgodlcnoenmbaaGreat
namespace Go.Proofs.YtkgodlcnoenmbaaGreat
open Go.RowKit
set_option linter.unusedVariables false
set_option maxRecDepth 100000
set_option maxHeartbeats 6400000
abbrev BRow:=List (Option Addr × List UInt8 × Nat)
structure RowAt (W:World) (P:Option Addr) (rows:BRow):Prop where
 cell:0<rows.length→∃ b o,P=some ⟨b,o,none⟩∧∀ i r,rows[i]?=some r→W.cell? ⟨b,o+i,none⟩=some (.slice r.1 r.2.1.length r.2.2)
 row:∀ r ∈ rows,Bs W r.1 r.2.1∧r.2.1.length≤r.2.2
def rowsB (rows:BRow):List UInt8:=rows.flatMap fun r=>r.2.1
abbrev HashP:=World→Nat→Sh→(Nat→Prop)→Prop
theorem rot_mod (x:W64) {n m:Int} (h:n % 64=m % 64):rot x n=rot x m:=by unfold rot;rw [h]
theorem and63 (k:Int):∃ s:Nat,s<64∧k % 64=(s:Int)∧bits .and .u64 (IntKind.u64.wrap k) 63=(s:Int):=by
 obtain ⟨K,hK⟩:∃ K:Nat,IntKind.u64.wrap k=(K:Int):=⟨(IntKind.u64.wrap k).toNat,by rw [IntKind.wrap_u64];omega⟩
 have hK2:(K:Int)=k % 18446744073709551616:=by rw [← hK,IntKind.wrap_u64]
 refine ⟨K % 64,Nat.mod_lt _ (by omega),by omega,?_⟩
 rw [hK]
 have h:=u64_and_nat K 63 (by omega) (by omega)
 rw [show (63:Nat)=2^6-1 by decide,Nat.and_two_pow_sub_one_eq_mod] at h
 exact h
theorem left_is (x:W64) (k:Int) {s:Nat} (hs:s<64) (h:k % 64=(s:Int)):x <<< s ||| x >>> (64-s)=rot x (-k):=by
 by_cases h0:s=0
 ·subst h0
  rw [rot_zero x (n:=-k) (by omega)]
  apply w_ext
  intro i hi
  simp
 ·rw [rot_shifts x (-k) (r:=64-s) (by omega),BitVec.or_comm]
  congr 2
  omega
theorem rotl_any (x:W64) (k:Int) (w:World) :
  Calls Tryz.prog 166 #[.int .u64 (x.toNat:Int),.int .i64 k] w fun e w'=>e=.returned (.int .u64 ((rot x (-k)).toNat:Int))∧w'=w:=by
 obtain ⟨s,hs,hk,ha⟩:=and63 k
 rw [← left_is x k hs hk]
 obtain ⟨r,hr⟩:∃ r,64-s=r:=⟨_,rfl⟩
 have t5:(64:Int)-(s:Int)=(r:Int):=by omega
 have t6:IntKind.u64.wrap (r:Int)=(r:Int):=by rw [IntKind.wrap_u64];omega
 have t7:=shr_w x r
 have t8:=shl_w x s
 have t9:=or_w (x <<< s) (x >>> r)
 rw [hr]
 generalize (x <<< s ||| x >>> r).toNat=v at *
 generalize (x >>> r).toNat=y at *
 generalize (x <<< s).toNat=z at *
 have hX:=x.isLt
 generalize x.toNat=X at *
 have hrl:r<65:=by omega
 clear hk hr
 go_enter Tryz.func166,Tryz.ntmps166
 go_wp2
 go_ret
 exact ⟨rfl,rfl⟩
theorem zbv (x:W64) (n:Int) (h1:-9223372036854775808≤n) (h2:n≤9223372036854775807) (w:World) :
  Calls Tryz.prog 165 #[.int .u64 (x.toNat:Int),.int .i64 n] w fun e w'=>e=.returned (.int .u64 ((rot x n).toNat:Int))∧w'=w:=by
 obtain ⟨m,hm⟩:∃ m,IntKind.i64.wrap (-n)=m:=⟨_,rfl⟩
 have e:rot x n=rot x (-m):=rot_mod x (by rw [← hm,IntKind.wrap_i64];omega)
 have H:=yh (fun W=>rotl_any x m W)
 rw [e]
 clear e
 generalize (rot x (-m)).toNat=v at *
 generalize x.toNat=X at *
 go_enter Tryz.func165,Tryz.ntmps165
 go_wp2_with ((with_reducible refine (H.out _).mono ?_);rintro e w' ⟨rfl,rfl⟩)
 go_ret
 exact ⟨rfl,rfl⟩
theorem pch_any (x y z:W64) (w:World) :
  Calls Tryz.prog 143 #[.int .u64 (x.toNat:Int),.int .u64 (y.toNat:Int),.int .u64 (z.toNat:Int)] w fun e w'=>e=.returned (.int .u64 ((chW x y z).toNat:Int))∧w'=w:=by
 unfold chW
 have f1:=and_w x y
 have f2:bits .xor .u64 IntKind.u64.max (x.toNat:Int)=((~~~x).toNat:Int):=not_w x
 generalize ~~~x=nx at *
 have f3:=and_w nx z
 generalize x &&& y=a at *
 generalize nx &&& z=b at *
 have f4:=or_w a b
 go_enter Tryz.func143,Tryz.ntmps143
 go_wp2
 go_ret
 exact ⟨rfl,rfl⟩
theorem pmaj_any (x y z:W64) (w:World) :
  Calls Tryz.prog 145 #[.int .u64 (x.toNat:Int),.int .u64 (y.toNat:Int),.int .u64 (z.toNat:Int)] w fun e w'=>e=.returned (.int .u64 ((majW x y z).toNat:Int))∧w'=w:=by
 unfold majW
 have f1:=and_w x y
 have f2:=and_w x z
 have f3:=and_w y z
 generalize x &&& y=a at *
 generalize x &&& z=b at *
 generalize y &&& z=c at *
 have f4:=or_w a b
 generalize a ||| b=d at *
 have f5:=or_w d c
 go_enter Tryz.func145,Tryz.ntmps145
 go_wp2
 go_ret
 exact ⟨rfl,rfl⟩
def bigE (x:W64):W64:=rot x 14 ^^^ rot x 18 ^^^ rot x 41
def bigA (x:W64):W64:=rot x 28 ^^^ rot x 34 ^^^ rot x 39
theorem small0_any (x:W64) (w:World) :
  Calls Tryz.prog 164 #[.int .u64 (x.toNat:Int)] w fun e w'=>e=.returned (.int .u64 ((sig0 x).toNat:Int))∧w'=w:=by
 unfold sig0
 have R1:=yh (fun W=>zbv x 1 (by omega) (by omega) W)
 have R2:=yh (fun W=>zbv x 8 (by omega) (by omega) W)
 have f0:=shr_w x 7
 generalize x >>> 7=s at *
 generalize rot x 1=a at *
 generalize rot x 8=b at *
 have f1:=xor_w a b
 generalize a ^^^ b=c at *
 have f2:=xor_w c s
 have g0:(x.toNat:Int)/128=(s.toNat:Int):=f0
 go_enter Tryz.func164,Tryz.ntmps164
 go_wp2_with (first | ((with_reducible refine (R1.out _).mono ?_);rintro e w' ⟨rfl,rfl⟩) | ((with_reducible refine (R2.out _).mono ?_);rintro e w' ⟨rfl,rfl⟩))
 go_ret
 exact ⟨rfl,rfl⟩
theorem small1_any (x:W64) (w:World) :
  Calls Tryz.prog 163 #[.int .u64 (x.toNat:Int)] w fun e w'=>e=.returned (.int .u64 ((sig1 x).toNat:Int))∧w'=w:=by
 unfold sig1
 have R1:=yh (fun W=>zbv x 19 (by omega) (by omega) W)
 have R2:=yh (fun W=>zbv x 61 (by omega) (by omega) W)
 have f0:=shr_w x 6
 generalize x >>> 6=s at *
 generalize rot x 19=a at *
 generalize rot x 61=b at *
 have f1:=xor_w a b
 generalize a ^^^ b=c at *
 have f2:=xor_w c s
 have g0:(x.toNat:Int)/64=(s.toNat:Int):=f0
 go_enter Tryz.func163,Tryz.ntmps163
 go_wp2_with (first | ((with_reducible refine (R1.out _).mono ?_);rintro e w' ⟨rfl,rfl⟩) | ((with_reducible refine (R2.out _).mono ?_);rintro e w' ⟨rfl,rfl⟩))
 go_ret
 exact ⟨rfl,rfl⟩
theorem big0_any (x:W64) (w:World) :
  Calls Tryz.prog 144 #[.int .u64 (x.toNat:Int)] w fun e w'=>e=.returned (.int .u64 ((bigA x).toNat:Int))∧w'=w:=by
 unfold bigA
 have R1:=yh (fun W=>zbv x 28 (by omega) (by omega) W)
 have R2:=yh (fun W=>zbv x 34 (by omega) (by omega) W)
 have R3:=yh (fun W=>zbv x 39 (by omega) (by omega) W)
 generalize rot x 28=a at *
 generalize rot x 34=b at *
 generalize rot x 39=s at *
 have f1:=xor_w a b
 generalize a ^^^ b=c at *
 have f2:=xor_w c s
 go_enter Tryz.func144,Tryz.ntmps144
 go_wp2_with (first | ((with_reducible refine (R1.out _).mono ?_);rintro e w' ⟨rfl,rfl⟩) | ((with_reducible refine (R2.out _).mono ?_);rintro e w' ⟨rfl,rfl⟩) | ((with_reducible refine (R3.out _).mono ?_);rintro e w' ⟨rfl,rfl⟩))
 go_ret
 exact ⟨rfl,rfl⟩
theorem big1_any (x:W64) (w:World) :
  Calls Tryz.prog 142 #[.int .u64 (x.toNat:Int)] w fun e w'=>e=.returned (.int .u64 ((bigE x).toNat:Int))∧w'=w:=by
 unfold bigE
 have R1:=yh (fun W=>zbv x 14 (by omega) (by omega) W)
 have R2:=yh (fun W=>zbv x 18 (by omega) (by omega) W)
 have R3:=yh (fun W=>zbv x 41 (by omega) (by omega) W)
 generalize rot x 14=a at *
 generalize rot x 18=b at *
 generalize rot x 41=s at *
 have f1:=xor_w a b
 generalize a ^^^ b=c at *
 have f2:=xor_w c s
 go_enter Tryz.func142,Tryz.ntmps142
 go_wp2_with (first | ((with_reducible refine (R1.out _).mono ?_);rintro e w' ⟨rfl,rfl⟩) | ((with_reducible refine (R2.out _).mono ?_);rintro e w' ⟨rfl,rfl⟩) | ((with_reducible refine (R3.out _).mono ?_);rintro e w' ⟨rfl,rfl⟩))
 go_ret
 exact ⟨rfl,rfl⟩
theorem wpList_copy_row {P:Program} {w:World} {ops:Array Oper} {rest:List Oper} {o:Oper} {a:Act} {Q:Exit→Act→World→Prop} (hgd:o.guard=none) (d s:Operand) (dT sT:TypeId)
  (ho:o.op=.call { callee:=.builtin .copy,args:=#[d,s],argTypes:=#[dT,sT] }) (E:TypeId) (hu:P.underlying dT=some (.slice E)) (hs:(P.info? E).map (·.size)=some 1)
  (g dLen dCap b:Nat) (sLen sCap:Nat) (hd:a.eval d=.slice (some ⟨g,0,none⟩) dLen dCap) (hx:a.eval s=.slice (some ⟨b,0,none⟩) sLen sCap) (cur cs:Array Value) (t t':TypeId)
  (hg:w.heap[g]?=some (.cells cur t (0,0))) (hb:w.heap[b]?=some (.cells cs t' (0,0))) (hl:sLen=cs.size) (hn:cs.size≤dLen) (hfit:cs.size≤cur.size) (h1:cs.all (·.oneCell')=true)
  (h:wpList P ops Q rest (a.put o.dst (goInt cs.size)) (w.setRow g (cs.toList++cur.toList.drop cs.size).toArray)):wpList P ops Q (o :: rest) a w:=by
 refine wpList_plain hgd fun K hK=>?_
 subst hl
 have hrun:=run_copy_row (P:=P) w dT sT o.type E g 0 dLen dCap ⟨b,0,none⟩ cs.size sCap cur t cs.toList hu hs hg (by rw [show Nat.min cs.size dLen=min cs.size dLen from rfl,Nat.min_eq_left hn];simp)
  (fun j v hj=>by
   have:=cell_of_row w b j cs t' (0,0) hb
   have e:(⟨b,0,none⟩:Addr).add j=⟨b,j,none⟩:=by
    unfold Addr.add
    split
    ·rename_i h;subst h;rfl
    ·simp
   rw [e,this]
   simpa using hj) (by simpa using hfit) (fun v hv=>by
   rw [Array.all_eq_true'] at h1
   exact h1 v (by simpa using hv))
 unfold Oper.wp execOp
 simp only [ho,resolve,invoke,builtin,Sem.run_bind,Sem.run_pure,Result.andThen_ok,List.map_toArray,List.map_cons,List.map_nil,hd,hx,hrun]
 refine hK _ _ ?_
 simpa using h
theorem pwords_any (A:Option Addr) (l:List UInt8) (c:Nat) (w:World) (hbs:Bs w A l) :
  Calls Tryz.prog 104 #[.slice A l.length c] w fun e w'=>e=.returned (.tuple #[.agg (tabW (wordsV l)),.bool (decide (l.length=128))])∧Below w.heap.size w w':=by
 have hz:=fun u=>zbi 136 16 (by kernel_rfl) u
 obtain ⟨t0,ht0⟩:∃ t0,tabW (List.replicate 16 0)=t0:=⟨_,rfl⟩
 have ht0s:t0.size=16:=by rw [← ht0,zam];simp
 rw [ht0] at hz
 have h0:((w.alloc (.cells t0 136)).alloc (.cells t0 136)).heap[w.heap.size]?=some (.cells t0 136 (0,0)):=heap_alloc2_old _ _ _
 have h2:((w.alloc (.cells t0 136)).alloc (.cells t0 136)).heap[w.heap.size+1]?=some (.cells t0 136 (0,0)):=heap_alloc2_new _ _ _
 have s0:(Tryz.prog.info? 136).map (·.size)=some t0.size:=by rw [ht0s];kernel_rfl
 have o0:t0.all (·.oneCell')=true:=by rw [← ht0];exact zaU _
 have hbe0:Below w.heap.size w ((w.alloc (.cells t0 136)).alloc (.cells t0 136)):=zae (zae (Below.refl _ w) _) _
 have HT:=yh ht0
 have HS:=yh hbs
 clear ht0
 unfold wordsV
 by_cases hlen:l.length=128
 ·rw [if_pos hlen]
  have hd:decide (l.length=128)=true:=by simp [hlen]
  rw [hd,hlen]
  have HL:=yh hlen
  clear hd hlen hbs
  go_enter Tryz.func104,Tryz.ntmps104
  go_wp2_with fail
  obtain ⟨W1,hW1⟩:∃ W,(w.alloc (.cells t0 136)).alloc (.cells t0 136)=W:=⟨_,rfl⟩
  obtain ⟨g,hg⟩:∃ g,w.heap.size=g:=⟨_,rfl⟩
  have HG:=yh hg
  rw [hW1,hg] at h0 h2 hbe0
  have HB1:=yh h2
  have HB0:=yh h0
  have HBE:=yh hbe0
  rw [← HT.out] at HB1
  rw [hW1,hg]
  clear h0 h2 hbe0 hW1 hg
  go_loopw [13] (fun i wr=>∃ k:Nat,k≤128∧i=.int .i64 (k:Int)∧Hid (wr.heap[g]?=some (.cells t0 136 (0,0))) ∧
    Hid (wr.heap[g+1]?=some (.cells (tabW (zaM l k)) 136 (0,0)))∧Hid (Below g w wr)) (fun i _=>128-(intOf i).toNat)
  case atStart=>exact ⟨0,by omega,rfl,HB0,HB1,HBE⟩
  case round =>
   clear HB0 HB1 HBE
   obtain ⟨k,hk,rfl,HB0,HB1,HBE⟩:=hrel
   by_cases hlt:k<128
   ·have hl:=zbk l k
    obtain ⟨d,hd⟩:∃ d,k/8=d:=⟨_,rfl⟩
    have hd16:d<16:=by omega
    have hck:wr.cell? ⟨g+1,d,none⟩=some (.int .u64 ((wG (zaM l k) d).toNat:Int)):=by rw [cell_of_row _ _ _ _ _ _ HB1.out,za8 _ _ (by omega)]
    have hfz:wr.frozen? ⟨g+1,d,none⟩=false:=by have:=HB1.out;simp [World.frozen?,this]
    obtain ⟨bb,oo,rfl,hc0⟩:=HS.out.at_ (k:=k) (by rw [HL.out];exact hlt)
    have hc:wr.cell? ⟨bb,oo+k,none⟩=some (.int .u8 ((l.getD k 0).toNat:Int)):=by
     have hlt:=World.block_lt_of_cell? w _ hc0
     rw [HBE.out.cell (by rw [HG.out] at hlt;exact hlt)];exact hc0
    have hset:(zaM l k).set d (pushB (wG (zaM l k) d) (l.getD k 0))=zaM l (k+1):=by rw [zaM,hd]
    generalize wG (zaM l k) d=x at *
    generalize l.getD k 0=b at *
    obtain ⟨nx,hnx⟩:∃ nx,pushB x b=nx:=⟨_,rfl⟩
    rw [hnx] at hset
    have hbl:=b.toNat_lt
    have f1:=shl_w x 8
    have f2:=or_w (x <<< 8) (BitVec.ofNat 64 b.toNat)
    have f3:x <<< 8 ||| BitVec.ofNat 64 b.toNat=nx:=hnx
    rw [push_nat,f3] at f2
    generalize x <<< 8=y at *
    have f4:IntKind.u64.wrap ((x.toNat:Int)*256)=(y.toNat:Int):=f1
    have f5:IntKind.u64.wrap (b.toNat:Int)=(b.toNat:Int):=by rw [IntKind.wrap_u64];omega
    have t1:(k:Int).tdiv 8=(d:Int):=by rw [Int.tdiv_eq_ediv_of_nonneg (by omega)];omega
    have t2:(k:Int)/8=(d:Int):=by omega
    have t3:IntKind.i64.wrap (d:Int)=(d:Int):=by rw [IntKind.wrap_i64];omega
    have p1:0≤(d:Int):=by omega
    have p2:(d:Int)<16:=by omega
    have p3:0≤(k:Int):=by omega
    have p4:(k:Int)<128:=by omega
    have HN:Hid ((wr.setCell ⟨g+1,d,none⟩ (.int .u64 (nx.toNat:Int))).heap[g]?=some (.cells t0 136 (0,0))) ∧
      Hid ((wr.setCell ⟨g+1,d,none⟩ (.int .u64 (nx.toNat:Int))).heap[g+1]?=some (.cells (tabW (zaM l (k+1))) 136 (0,0)))∧Hid (Below g w (wr.setCell ⟨g+1,d,none⟩ (.int .u64 (nx.toNat:Int)))):=by
     have e:=setCell_eq_setRow wr (g+1) d _ _ _ (.int .u64 (nx.toNat:Int)) HB1.out
     refine ⟨yh ?_,yh ?_,yh (HBE.out.setCell (p:=⟨g+1,d,none⟩) (by show g≤g+1;omega) _)⟩
     ·rw [e,setRow_other _ _ _ _ (by omega)];exact HB0.out
     ·rw [e,setRow_heap _ _ _ _ _ _ (show wr.heap[g+1]?=_ from HB1.out),tabW_set,hset]
    obtain ⟨n1,n2,n3⟩:=HN
    clear hset hnx hl HB0 HB1 HBE f1 f3 hc0
    go_wp2_with fail
    go_roundw
    case rel=>exact ⟨k+1,by omega,by go_num,n1,n2,n3⟩
    case measure=>simp [intOf];omega
   ·obtain rfl:k=128:=by omega
    have h1:=HB1.out
    have h0:=HB0.out
    have s1:(Tryz.prog.info? 136).map (·.size)=some (tabW (zaM l 128)).size:=by rw [zam,zbk];kernel_rfl
    have sz:t0.size=(tabW (zaM l 128)).size:=by rw [ht0s,zam,zbk]
    have o1:=zaU (zaM l 128)
    have HB:=yh (show Below w.heap.size w (wr.setRow g (tabW (zaM l 128))) by
     rw [HG.out]
     exact zay HBE.out (Nat.le_refl _))
    obtain ⟨t1,ht1⟩:∃ t1,tabW (zaM l 128)=t1:=⟨_,rfl⟩
    rw [ht1] at h1 s1 sz o1 HB
    have HT1:=yh ht1
    clear ht1 HB0 HB1 HBE
    go_wp2_with (first
     | (refine yi h1 Tryz.underlying136 s1 ?_)
     | (refine yj t1 h0 s1 sz o1 ?_))
    (try simp only [Exit.inBlock,Exit.then])
    refine bodyPost_ret (zbx rfl _ _ g _ t1 _ _ _ rfl rfl (setRow_heap wr _ _ _ _ _ h0) Tryz.underlying136 rfl s1) rfl ?_
    exact ⟨by unfold zbe;rw [HT1.out];rfl,HB.out⟩
 ·rw [if_neg hlen]
  have hd:decide (l.length=128)=false:=by simp [hlen]
  have hi:¬ ((l.length:Nat):Int)=128:=by omega
  rw [hd,HT.out]
  clear hd hbs hlen
  generalize l.length=n at *
  have HB:Hid (Below w.heap.size w (((w.alloc (.cells t0 136)).alloc (.cells t0 136)).setRow w.heap.size t0)):=yh (zay hbe0 (Nat.le_refl _))
  go_enter Tryz.func104,Tryz.ntmps104
  go_wp2_with (first
   | (refine yi h2 Tryz.underlying136 s0 ?_)
   | (refine yj t0 h0 s0 rfl o0 ?_))
  (try simp only [Exit.inBlock,Exit.then])
  refine bodyPost_ret (zbx rfl _ _ w.heap.size _ t0 _ _ _ rfl rfl (setRow_heap _ _ _ _ _ _ h0) Tryz.underlying136 rfl s0) rfl ?_
  exact ⟨rfl,HB.out⟩
theorem sch_whole (m:List W64) (hm:m.length=16):sch m 16=m:=by
 apply List.ext_getElem (by rw [zbl,hm])
 intro i h1 h2
 have h:=sch_first m (i:=i) (k:=16) (by rw [zbl] at h1;exact h1) (by rw [zbl] at h1;exact h1)
 unfold wG at h
 simp only [List.getD,List.getElem?_eq_getElem h1,List.getElem?_eq_getElem h2,Option.getD_some] at h
 exact h
theorem psched_any (m:List W64) (hm:m.length=16) (w:World) :
  Calls Tryz.prog 141 #[.agg (tabW m)] w fun e w'=>e=.returned (.agg (tabW (sch m 80)))∧Below w.heap.size w w':=by
 have hz:=fun u=>zbi 80 80 (by kernel_rfl) u
 have sM:(Tryz.prog.info? 136).map (·.size)=some (tabW m).size:=by rw [zam,hm];kernel_rfl
 have hMs:(tabW m).size=16:=by rw [zam,hm]
 have oM:(tabW m).all (·.oneCell')=true:=zaU _
 have hst:((tabW m).toList++(tabW (List.replicate 80 0)).toList.drop (tabW m).size).toArray=tabW (zbt m 16):=by
  rw [hMs]
  unfold zbt tabW
  rw [sch_whole m hm]
  simp
 obtain ⟨M,hM⟩:∃ M,tabW m=M:=⟨_,rfl⟩
 obtain ⟨t0,ht0⟩:∃ t0,tabW (List.replicate 80 0)=t0:=⟨_,rfl⟩
 have ht0s:t0.size=80:=by rw [← ht0,zam];simp
 rw [ht0] at hz
 rw [ht0,hM] at hst
 rw [hM] at sM hMs oM ⊢
 have h2:(((w.alloc (.cells M 136)).alloc (.cells t0 80)).alloc (.cells t0 80)).heap[w.heap.size+1+1]?=some (.cells t0 80 (0,0)):=by
  have:=heap_alloc_new ((w.alloc (.cells M 136)).alloc (.cells t0 80)) (.cells t0 80)
  rwa [World.size_alloc,World.size_alloc] at this
 have h1:(((w.alloc (.cells M 136)).alloc (.cells t0 80)).alloc (.cells t0 80)).heap[w.heap.size+1]?=some (.cells t0 80 (0,0)):=by
  rw [heap_alloc_old _ _ (by rw [World.size_alloc,World.size_alloc];omega)]
  have:=heap_alloc_new (w.alloc (.cells M 136)) (.cells t0 80)
  rwa [World.size_alloc] at this
 have h0:(((w.alloc (.cells M 136)).alloc (.cells t0 80)).alloc (.cells t0 80)).heap[w.heap.size]?=some (.cells M 136 (0,0)):=by
  rw [heap_alloc_old _ _ (by rw [World.size_alloc,World.size_alloc];omega),heap_alloc_old _ _ (by rw [World.size_alloc];omega)]
  exact heap_alloc_new w _
 have hbe:Below w.heap.size w (((w.alloc (.cells M 136)).alloc (.cells t0 80)).alloc (.cells t0 80)):=zae (zae (zae (Below.refl _ w) _) _) _
 have s0:(Tryz.prog.info? 80).map (·.size)=some t0.size:=by rw [ht0s];kernel_rfl
 have o0:t0.all (·.oneCell')=true:=by rw [← ht0];exact zaU _
 have HM:=yh hM
 have HT:=yh ht0
 have HST:=yh hst
 clear hM ht0 hst
 have H0:=yh h0
 have H1:=yh h1
 have H2:=yh h2
 have HBE0:=yh hbe
 clear h0 h1 h2 hbe
 go_enter Tryz.func141,Tryz.ntmps141
 go_wp2_with fail
 obtain ⟨W0,hW0⟩:∃ W,((w.alloc (.cells M 136)).alloc (.cells t0 80)).alloc (.cells t0 80)=W:=⟨_,rfl⟩
 obtain ⟨g,hg⟩:∃ g,w.heap.size=g:=⟨_,rfl⟩
 rw [hW0,hg] at H0 H1 H2 HBE0
 have HG:=yh hg
 rw [hW0,hg]
 clear hW0 hg
 refine wp_region_still_tail 2 (by kernel_rfl) (by kernel_rfl) ?_
 simp only [List.take_succ_cons,List.take_zero,List.drop_succ_cons,List.drop_zero]
 iterate 2 still_step
 refine wpStill_nil ?_
 refine wpList_copy_row rfl (.tmp 5) (.tmp 6) 128 128 rfl 61 Tryz.underlying128 (by kernel_rfl) (g+1+1) 80 80 g 16 16 rfl rfl t0 M 80 136 H2.out H0.out hMs.symm (by rw [hMs];omega) (by rw [hMs,ht0s];omega) oM ?_
 rw [HST.out]
 obtain ⟨W1,hW1⟩:∃ W,({ W0 with drawn:=W0.drawn+1 }:World).setRow (g+1+1) (tabW (zbt m 16))=W:=⟨_,rfl⟩
 have HB2:Hid (W1.heap[g+1+1]?=some (.cells (tabW (zbt m 16)) 80 (0,0))):=yh (by rw [← hW1];exact setRow_heap _ _ _ _ _ _ H2.out)
 have HB1:Hid (W1.heap[g+1]?=some (.cells t0 80 (0,0))):=yh (by rw [← hW1,setRow_other _ _ _ _ (by omega)];exact H1.out)
 have HBE:Hid (Below g w W1):=yh (by rw [← hW1];exact zay (zaQ HBE0.out 1) (by omega))
 rw [hW1]
 clear hW1 H0 H1 H2 HBE0
 have HR0:Hid (∀ (x:W64) (W:World),Calls Tryz.prog 164 #[.int .u64 (x.toNat:Int)] W fun e w'=>e=.returned (.int .u64 ((sig0 x).toNat:Int))∧w'=W):=yh fun x W=>small0_any x W
 have HR1:Hid (∀ (x:W64) (W:World),Calls Tryz.prog 163 #[.int .u64 (x.toNat:Int)] W fun e w'=>e=.returned (.int .u64 ((sig1 x).toNat:Int))∧w'=W):=yh fun x W=>small1_any x W
 go_wp2_with fail
 go_loopw [4] (fun i wr=>∃ k:Nat,16≤k∧k≤80∧i=.int .i64 (k:Int)∧Hid (wr.heap[g+1]?=some (.cells t0 80 (0,0))) ∧
   Hid (wr.heap[g+1+1]?=some (.cells (tabW (zbt m k)) 80 (0,0)))∧Hid (Below g w wr)) (fun i _=>80-(intOf i).toNat)
 case atStart=>exact ⟨16,by omega,by omega,rfl,HB1,HB2,HBE⟩
 case round =>
  clear HB1 HB2 HBE
  obtain ⟨k,hk16,hk,rfl,HB1,HB2,HBE⟩:=hrel
  by_cases hlt:k<80
  ·have hl:=schTab_len m hk
   have hck:wr.cell? ⟨g+1+1,k,none⟩=some (.int .u64 ((wG (zbt m k) k).toNat:Int)):=by rw [cell_of_row _ _ _ _ _ _ HB2.out,za8 _ _ (by omega)]
   have hfz:wr.frozen? ⟨g+1+1,k,none⟩=false:=by have:=HB2.out;simp [World.frozen?,this]
   have hset:=schTab_set m hlt
   obtain ⟨nx,hnx⟩:∃ nx,schNext m (sch m k) k=nx:=⟨_,rfl⟩
   rw [hnx] at hset
   have HN:Hid (((wr.drewN 1).setCell ⟨g+1+1,k,none⟩ (.int .u64 (nx.toNat:Int))).heap[g+1]?=some (.cells t0 80 (0,0))) ∧
     Hid (((wr.drewN 1).setCell ⟨g+1+1,k,none⟩ (.int .u64 (nx.toNat:Int))).heap[g+1+1]?=some (.cells (tabW (zbt m (k+1))) 80 (0,0)))∧Hid (Below g w ((wr.drewN 1).setCell ⟨g+1+1,k,none⟩ (.int .u64 (nx.toNat:Int)))):=by
    have e:=setCell_eq_setRow (wr.drewN 1) (g+1+1) k _ _ _ (.int .u64 (nx.toNat:Int)) HB2.out
    refine ⟨yh ?_,yh ?_,yh ((zaQ HBE.out 1).setCell (p:=⟨g+1+1,k,none⟩) (by show g≤g+1+1;omega) _)⟩
    ·rw [e,setRow_other _ _ _ _ (by omega)];exact HB1.out
    ·rw [e,setRow_heap _ _ _ _ _ _ (show (wr.drewN 1).heap[g+1+1]?=_ from HB2.out),tabW_set,hset]
   generalize (wG (zbt m k) k).toNat=old at *
   have cell:∀ j,j<k→wr.cell? ⟨g+1+1,j,none⟩=some (.int .u64 ((wG (sch m k) j).toNat:Int)):=fun j hj=>by
    rw [cell_of_row _ _ _ _ _ _ HB2.out,za8 _ _ (by omega),schTab_get m hj]
   obtain ⟨i15,e15⟩:∃ i,k-15=i:=⟨_,rfl⟩
   obtain ⟨i2,e2⟩:∃ i,k-2=i:=⟨_,rfl⟩
   obtain ⟨i7,e7⟩:∃ i,k-7=i:=⟨_,rfl⟩
   obtain ⟨i16,e16⟩:∃ i,k-16=i:=⟨_,rfl⟩
   have c15:=cell i15 (by omega)
   have c2:=cell i2 (by omega)
   have c7:=cell i7 (by omega)
   have c16:=cell i16 (by omega)
   unfold schNext at hnx
   rw [if_neg (by omega),e15,e2,e7,e16] at hnx
   have j15:(k:Int)-15=(i15:Int):=by omega
   have j2:(k:Int)-2=(i2:Int):=by omega
   have j7:(k:Int)-7=(i7:Int):=by omega
   have j16:(k:Int)-16=(i16:Int):=by omega
   have w15:IntKind.i64.wrap (i15:Int)=(i15:Int):=by rw [IntKind.wrap_i64];omega
   have w2:IntKind.i64.wrap (i2:Int)=(i2:Int):=by rw [IntKind.wrap_i64];omega
   have w7:IntKind.i64.wrap (i7:Int)=(i7:Int):=by rw [IntKind.wrap_i64];omega
   have w16:IntKind.i64.wrap (i16:Int)=(i16:Int):=by rw [IntKind.wrap_i64];omega
   have m15:(i15:Int)<80:=by omega
   have m2:(i2:Int)<80:=by omega
   have m7:(i7:Int)<80:=by omega
   have m16:(i16:Int)<80:=by omega
   have mk:(k:Int)<80:=by omega
   have p15:0≤(i15:Int):=by omega
   have p2:0≤(i2:Int):=by omega
   have p7:0≤(i7:Int):=by omega
   have p16:0≤(i16:Int):=by omega
   have pk:0≤(k:Int):=by omega
   generalize wG (sch m k) i15=x15 at *
   generalize wG (sch m k) i2=x2 at *
   generalize wG (sch m k) i7=x7 at *
   generalize wG (sch m k) i16=x16 at *
   have R1:=yh (HR1.out x2)
   have R0:=yh (HR0.out x15)
   generalize sig1 x2=u2 at *
   generalize sig0 x15=u4 at *
   have f7:=add_w u2 x7
   generalize u2+x7=u5 at *
   have f8:=add_w u5 u4
   generalize u5+u4=u6 at *
   have f9:=add_w u6 x16
   rw [hnx] at f9
   obtain ⟨n1,n2,n3⟩:=HN
   clear hset hnx hl HB1 HB2 HBE HR0 HR1 cell e15 e2 e7 e16
   go_wp2_with fail
   refine wp_region_still_tail 23 (by kernel_rfl) (by kernel_rfl) ?_
   simp only [List.take_succ_cons,List.take_zero,List.drop_succ_cons,List.drop_zero]
   iterate 5 still_step
   still_call (R1.out _)
   iterate 9 still_step
   still_call (R0.out _)
   iterate 7 still_step
   refine wpStill_nil ?_
   go_wp2_with fail
   go_roundw
   case rel=>exact ⟨k+1,by omega,by omega,by go_num,n1,n2,n3⟩
   case measure=>simp [intOf];omega
  ·obtain rfl:k=80:=by omega
   have h1:=HB2.out
   have h0:=HB1.out
   rw [schTab_end] at h1
   have s1:(Tryz.prog.info? 80).map (·.size)=some (tabW (sch m 80)).size:=by rw [zam,zbl];kernel_rfl
   have sz:t0.size=(tabW (sch m 80)).size:=by rw [ht0s,zam,zbl]
   have o1:=zaU (sch m 80)
   have HB:=yh (show Below w.heap.size w (wr.setRow (g+1) (tabW (sch m 80))) by
    rw [HG.out]
    exact zay HBE.out (by omega))
   obtain ⟨t1,ht1⟩:∃ t1,tabW (sch m 80)=t1:=⟨_,rfl⟩
   rw [ht1] at h1 s1 sz o1 HB
   have HT1:=yh ht1
   clear ht1 HB1 HB2 HBE HR0 HR1
   go_wp2_with (first
    | (refine yi h1 Tryz.underlying80 s1 ?_)
    | (refine yj t1 h0 s1 sz o1 ?_))
   (try simp only [Exit.inBlock,Exit.then])
   refine bodyPost_ret (results_cell_row rfl _ _ (g+1) _ t1 _ _ rfl (setRow_heap wr _ _ _ _ _ h0) Tryz.underlying80 rfl s1) rfl ?_
   exact ⟨by rw [HT1.out],HB.out⟩
structure StepP (w wr:World) (g gW:Nat) (KK S z8 WW:Array Value):Prop where
 low:g+1+1+1<gW
 ks:wr.heap[g]?=some (.cells KK 80 (0,0))
 s:wr.heap[g+1]?=some (.cells S 87 (0,0))
 z:wr.heap[g+1+1+1]?=some (.cells z8 87 (0,0))
 ws:wr.heap[gW]?=some (.cells WW 80 (0,0))
 below:Below g w wr
theorem StepP.drewN {w wr:World} {g gW:Nat} {KK S z8 WW:Array Value} (h:StepP w wr g gW KK S z8 WW) (q:Nat):StepP w (wr.drewN q) g gW KK S z8 WW :=
 ⟨h.low,h.ks,h.s,h.z,h.ws,zaQ h.below q⟩
theorem stOne_big (v:St) (k w:W64):stOne v k w=v.h+bigE v.e+chW v.e v.f v.g+k+w:=rfl
theorem stTwo_big (v:St):stTwo v=bigA v.a+majW v.a v.b v.c:=rfl
theorem pwith_any (ks:List W64) (hk:ks.length=80) (s:St) (m:List W64) (hm:m.length=16) (w:World) :
    Calls Tryz.prog 105 #[.agg (tabW ks),.agg (tabW s.l),.agg (tabW m)] w fun e w'=>e=.returned (.agg (tabW (stepW ks s m).l))∧Below w.heap.size w w':=by
  have hz8:=fun u=>zbi 87 8 (by kernel_rfl) u
  have hz80:=fun u=>zbi 80 80 (by kernel_rfl) u
  obtain ⟨S,hS⟩:∃ t,tabW s.l=t:=⟨_,rfl⟩
  obtain ⟨M,hM⟩:∃ t,tabW m=t:=⟨_,rfl⟩
  obtain ⟨z8,hz8e⟩:∃ t,tabW (List.replicate 8 0)=t:=⟨_,rfl⟩
  obtain ⟨z80,hz80e⟩:∃ t,tabW (List.replicate 80 0)=t:=⟨_,rfl⟩
  obtain ⟨WW,hWW⟩:∃ t,tabW (sch m 80)=t:=⟨_,rfl⟩
  obtain ⟨KK,hKK⟩:∃ t,tabW ks=t:=⟨_,rfl⟩
  have nS:S.size=8:=by rw [← hS,zam];rfl
  have nM:M.size=16:=by rw [← hM,zam,hm]
  have n8:z8.size=8:=by rw [← hz8e,zam];simp
  have n80:z80.size=80:=by rw [← hz80e,zam];simp
  have nW:WW.size=80:=by rw [← hWW,zam,zbl]
  have oW:WW.all (·.oneCell')=true:=by rw [← hWW];exact zaU _
  have iM:(Tryz.prog.info? 136).map (·.size)=some M.size:=by rw [nM];kernel_rfl
  have iW:(Tryz.prog.info? 80).map (·.size)=some WW.size:=by rw [nW];kernel_rfl
  have HSch:Hid (∀ W:World,Calls Tryz.prog 141 #[.agg M] W fun e w'=>e=.returned (.agg WW)∧Below W.heap.size W w'):=yh (by rw [← hM,← hWW];exact fun W=>psched_any m hm W)
  have HCH:Hid (∀ (x y z:W64) (W:World),Calls Tryz.prog 143 #[.int .u64 (x.toNat:Int),.int .u64 (y.toNat:Int),.int .u64 (z.toNat:Int)] W fun e w'=>e=.returned (.int .u64 ((chW x y z).toNat:Int))∧w'=W):=yh fun x y z W=>pch_any x y z W
  have HMA:Hid (∀ (x y z:W64) (W:World),Calls Tryz.prog 145 #[.int .u64 (x.toNat:Int),.int .u64 (y.toNat:Int),.int .u64 (z.toNat:Int)] W fun e w'=>e=.returned (.int .u64 ((majW x y z).toNat:Int))∧w'=W):=yh fun x y z W=>pmaj_any x y z W
  have HB0:Hid (∀ (x:W64) (W:World),Calls Tryz.prog 144 #[.int .u64 (x.toNat:Int)] W fun e w'=>e=.returned (.int .u64 ((bigA x).toNat:Int))∧w'=W):=yh fun x W=>big0_any x W
  have HB1:Hid (∀ (x:W64) (W:World),Calls Tryz.prog 142 #[.int .u64 (x.toNat:Int)] W fun e w'=>e=.returned (.int .u64 ((bigE x).toNat:Int))∧w'=W):=yh fun x W=>big1_any x W
  rw [hS,hM,hKK]
  rw [hz8e] at hz8
  rw [hz80e] at hz80
  have HS:=yh hS
  have HWW:=yh hWW
  have HKK:=yh hKK
  have HKL:=yh hk
  clear hS hM hz8e hz80e hWW hKK hk
  obtain ⟨W0,hW0⟩:∃ W,(((w.alloc (.cells KK 80)).alloc (.cells S 87)).alloc (.cells M 136)).alloc (.cells z8 87)=W:=⟨_,rfl⟩
  have z0:(w.alloc (.cells KK 80)).heap.size=w.heap.size+1:=World.size_alloc _ _
  have z1:((w.alloc (.cells KK 80)).alloc (.cells S 87)).heap.size=w.heap.size+1+1:=by rw [World.size_alloc,z0]
  have z2:(((w.alloc (.cells KK 80)).alloc (.cells S 87)).alloc (.cells M 136)).heap.size=w.heap.size+1+1+1:=by rw [World.size_alloc,z1]
  have z3:W0.heap.size=w.heap.size+1+1+1+1:=by rw [← hW0,World.size_alloc,z2]
  have a0:W0.heap[w.heap.size]?=some (.cells KK 80 (0,0)):=by
    rw [← hW0,heap_alloc_old _ _ (by rw [z2];omega),heap_alloc_old _ _ (by rw [z1];omega),heap_alloc_old _ _ (by rw [z0];omega)]
    exact heap_alloc_new _ _
  have a1:W0.heap[w.heap.size+1]?=some (.cells S 87 (0,0)):=by
    rw [← hW0,heap_alloc_old _ _ (by rw [z2];omega),heap_alloc_old _ _ (by rw [z1];omega),← z0]
    exact heap_alloc_new _ _
  have a2:W0.heap[w.heap.size+1+1]?=some (.cells M 136 (0,0)):=by
    rw [← hW0,heap_alloc_old _ _ (by rw [z2];omega),← z1]
    exact heap_alloc_new _ _
  have a3:W0.heap[w.heap.size+1+1+1]?=some (.cells z8 87 (0,0)):=by
    rw [← hW0,← z2]
    exact heap_alloc_new _ _
  have ab:Below w.heap.size w W0:=by rw [← hW0];exact zae (zae (zae (zae (Below.refl _ w) _) _) _) _
  have hM0:((((w.alloc (.cells KK 80)).alloc (.cells S 87)).alloc (.cells M 136)).alloc (.cells z8 87)).heap[w.heap.size+1+1]?=some (.cells M 136 (0,0)):=by rw [hW0];exact a2
  have A0:=yh a0
  have A1:=yh a1
  have A3:=yh a3
  have AB:=yh ab
  have AS:=yh z3
  have HW0:=yh hW0
  clear a0 a1 a2 a3 ab z0 z1 z2 z3 hW0
  go_enter Tryz.func105,Tryz.ntmps105
  go_wp2_with (refine yi hM0 Tryz.underlying136 iM ?_)
  rw [HW0.out]
  with_reducible refine (HSch.out _).mono ?_
  rintro e w1 ⟨rfl,hb1⟩
  have hs1:w.heap.size+1+1+1+1≤w1.heap.size:=by have:=hb1.size;rwa [AS.out] at this
  have b0:=hb1.block w.heap.size (by rw [AS.out];omega)
  rw [A0.out] at b0
  have b1:=hb1.block (w.heap.size+1) (by rw [AS.out];omega)
  rw [A1.out] at b1
  have b3:=hb1.block (w.heap.size+1+1+1) (by rw [AS.out];omega)
  rw [A3.out] at b3
  have bb:Below w.heap.size w w1:=zaa AB.out hb1
  have hW0:(w1.alloc (.cells z80 80)).heap[w1.heap.size]?=some (.cells z80 80 (0,0)):=heap_alloc_new _ _
  have zW:z80.size=WW.size:=by rw [n80,nW]
  have HI:Hid (StepP w ((w1.alloc (.cells z80 80)).setRow w1.heap.size WW) w.heap.size w1.heap.size KK S z8 WW):=by
    refine yh ⟨by omega,?_,?_,?_,setRow_heap _ _ _ _ _ _ hW0,zay (zae bb _) (by omega)⟩
    · rw [setRow_other _ _ _ _ (by omega),heap_alloc_old _ _ (by omega)];exact b0
    · rw [setRow_other _ _ _ _ (by omega),heap_alloc_old _ _ (by omega)];exact b1
    · rw [setRow_other _ _ _ _ (by omega),heap_alloc_old _ _ (by omega)];exact b3
  clear hs1 b0 b1 b3 bb hb1 A0 A1 A3 AB AS HW0 hM0 HSch
  go_wp2_with (refine yj WW hW0 iW zW oW ?_)
  obtain ⟨W4,hW4⟩:∃ W,(w1.alloc (.cells z80 80)).setRow w1.heap.size WW=W:=⟨_,rfl⟩
  obtain ⟨g,hg⟩:∃ g,w.heap.size=g:=⟨_,rfl⟩
  obtain ⟨gW,hgW⟩:∃ g,w1.heap.size=g:=⟨_,rfl⟩
  rw [hW4,hg,hgW] at HI
  rw [hW4,hg,hgW]
  have HG:=yh hg
  clear hW0 hW4 hg hgW
  obtain ⟨sa,sb,sc,sd,se,sf,sy,sz⟩:=s
  have cs:∀ j,j<8→W4.cell? ⟨g+1,j,none⟩=some (.int .u64 ((wG [sa,sb,sc,sd,se,sf,sy,sz] j).toNat:Int)):=fun j hj=>by rw [cell_of_row _ _ _ _ _ _ HI.out.s,← HS.out,za8 _ _ hj];rfl
  have c0:W4.cell? ⟨g+1,0,none⟩=some (.int .u64 (sa.toNat:Int)):=cs 0 (by omega)
  have c1:W4.cell? ⟨g+1,1,none⟩=some (.int .u64 (sb.toNat:Int)):=cs 1 (by omega)
  have c2:W4.cell? ⟨g+1,2,none⟩=some (.int .u64 (sc.toNat:Int)):=cs 2 (by omega)
  have c3:W4.cell? ⟨g+1,3,none⟩=some (.int .u64 (sd.toNat:Int)):=cs 3 (by omega)
  have c4:W4.cell? ⟨g+1,4,none⟩=some (.int .u64 (se.toNat:Int)):=cs 4 (by omega)
  have c5:W4.cell? ⟨g+1,5,none⟩=some (.int .u64 (sf.toNat:Int)):=cs 5 (by omega)
  have c6:W4.cell? ⟨g+1,6,none⟩=some (.int .u64 (sy.toNat:Int)):=cs 6 (by omega)
  have c7:W4.cell? ⟨g+1,7,none⟩=some (.int .u64 (sz.toNat:Int)):=cs 7 (by omega)
  clear cs
  go_quiet (fail)
  obtain ⟨W5,hW5⟩:∃ W,W4.drewN nq=W:=⟨_,rfl⟩
  have HI2:Hid (StepP w W5 g gW KK S z8 WW):=yh (by rw [← hW5];exact HI.out.drewN nq)
  clear HI c0 c1 c2 c3 c4 c5 c6 c7
  rw [hW5]
  go_wp2_with fail
  go_loopw [8,9,10,11,12,13,14,15,37] (fun a b c d e f y z i wr=>∃ k:Nat,k≤80∧i=.int .i64 (k:Int)∧∃ v:St,rounds ks (sch m 80) ⟨sa,sb,sc,sd,se,sf,sy,sz⟩ k=v ∧
      a=.int .u64 (v.a.toNat:Int)∧b=.int .u64 (v.b.toNat:Int)∧c=.int .u64 (v.c.toNat:Int)∧d=.int .u64 (v.d.toNat:Int)∧e=.int .u64 (v.e.toNat:Int)∧f=.int .u64 (v.f.toNat:Int)∧y=.int .u64 (v.g.toNat:Int)∧z=.int .u64 (v.h.toNat:Int) ∧
      Hid (StepP w wr g gW KK S z8 WW)) (fun _ _ _ _ _ _ _ _ i _=>80-(intOf i).toNat)
  case atStart=>exact ⟨0,by omega,rfl,⟨sa,sb,sc,sd,se,sf,sy,sz⟩,rfl,rfl,rfl,rfl,rfl,rfl,rfl,rfl,rfl,HI2⟩
  case round =>
    clear HI2
    obtain ⟨k,hk,rfl,⟨a,b,c,d,e,f,y,z⟩,hv,rfl,rfl,rfl,rfl,rfl,rfl,rfl,rfl,HI⟩:=hrel
    by_cases hlt:k<80
    · obtain ⟨kw,hkw⟩:∃ x,wG ks k=x:=⟨_,rfl⟩
      obtain ⟨ww,hww⟩:∃ x,wG (sch m 80) k=x:=⟨_,rfl⟩
      have hv2:rounds ks (sch m 80) ⟨sa,sb,sc,sd,se,sf,sy,sz⟩ (k+1)=stNext ⟨a,b,c,d,e,f,y,z⟩ kw ww:=by rw [rounds,hv,hkw,hww]
      have ck:wr.cell? ⟨g,k,none⟩=some (.int .u64 (kw.toNat:Int)):=by rw [cell_of_row _ _ _ _ _ _ HI.out.ks,← HKK.out,za8 _ _ (by rw [HKL.out];exact hlt),hkw]
      have cw:wr.cell? ⟨gW,k,none⟩=some (.int .u64 (ww.toNat:Int)):=by rw [cell_of_row _ _ _ _ _ _ HI.out.ws,← HWW.out,za8 _ _ (by rw [zbl];exact hlt),hww]
      unfold stNext at hv2
      rw [stOne_big,stTwo_big] at hv2
      have R1:=yh (HB1.out e)
      have R2:=yh (HCH.out e f y)
      have R3:=yh (HB0.out a)
      have R4:=yh (HMA.out a b c)
      clear hkw hww hv
      simp only at hv2
      generalize bigE e=r1 at *
      generalize chW e f y=r2 at *
      generalize bigA a=r3 at *
      generalize majW a b c=r4 at *
      have f1:=add_w z r1
      generalize z+r1=u1 at *
      have f2:=add_w u1 r2
      generalize u1+r2=u2 at *
      have f3:=add_w u2 kw
      generalize u2+kw=u3 at *
      have f4:=add_w u3 ww
      generalize u3+ww=one at *
      have f5:=add_w r3 r4
      generalize r3+r4=two at *
      have f6:=add_w one two
      generalize one+two=n0 at *
      have f7:=add_w d one
      generalize d+one=n4 at *
      have HV:=yh hv2
      have p1:0≤(k:Int):=by omega
      have p2:(k:Int)<80:=by omega
      have HI2:=yh (HI.out.drewN 1)
      clear hv2 HI HB0 HB1 HCH HMA
      go_wp2_with fail
      refine wp_region_still_tail 17 (by kernel_rfl) (by kernel_rfl) ?_
      simp only [List.take_succ_cons,List.take_zero,List.drop_succ_cons,List.drop_zero]
      iterate 2 still_step
      still_call (R1.out _)
      iterate 4 still_step
      still_call (R2.out _)
      iterate 9 still_step
      refine wpStill_nil ?_
      go_wp2_with (first | ((with_reducible refine (R3.out _).mono ?_);rintro e w' ⟨rfl,rfl⟩) | ((with_reducible refine (R4.out _).mono ?_);rintro e w' ⟨rfl,rfl⟩))
      go_roundw
      case rel=>exact ⟨k+1,by omega,by go_num,_,HV.out,rfl,rfl,rfl,rfl,rfl,rfl,rfl,rfl,HI2⟩
      case measure=>simp [intOf];omega
    · have hk80:k=80:=by omega
      have hge:¬ (k:Int)<80:=by omega
      have hE:(stepW ks ⟨sa,sb,sc,sd,se,sf,sy,sz⟩ m).l=[sa+a,sb+b,sc+c,sd+d,se+e,sf+f,sy+y,sz+z]:=by
        have hv8:=hv
        rw [hk80] at hv8
        unfold stepW
        rw [hv8,BitVec.add_comm sa,BitVec.add_comm sb,BitVec.add_comm sc,BitVec.add_comm sd,BitVec.add_comm se,BitVec.add_comm sf,BitVec.add_comm sy,BitVec.add_comm sz]
        rfl
      have cs:∀ j,j<8→wr.cell? ⟨g+1,j,none⟩=some (.int .u64 ((wG [sa,sb,sc,sd,se,sf,sy,sz] j).toNat:Int)):=fun j hj=>by rw [cell_of_row _ _ _ _ _ _ HI.out.s,← HS.out,za8 _ _ hj];rfl
      have c0:wr.cell? ⟨g+1,0,none⟩=some (.int .u64 (sa.toNat:Int)):=cs 0 (by omega)
      have c1:wr.cell? ⟨g+1,1,none⟩=some (.int .u64 (sb.toNat:Int)):=cs 1 (by omega)
      have c2:wr.cell? ⟨g+1,2,none⟩=some (.int .u64 (sc.toNat:Int)):=cs 2 (by omega)
      have c3:wr.cell? ⟨g+1,3,none⟩=some (.int .u64 (sd.toNat:Int)):=cs 3 (by omega)
      have c4:wr.cell? ⟨g+1,4,none⟩=some (.int .u64 (se.toNat:Int)):=cs 4 (by omega)
      have c5:wr.cell? ⟨g+1,5,none⟩=some (.int .u64 (sf.toNat:Int)):=cs 5 (by omega)
      have c6:wr.cell? ⟨g+1,6,none⟩=some (.int .u64 (sy.toNat:Int)):=cs 6 (by omega)
      have c7:wr.cell? ⟨g+1,7,none⟩=some (.int .u64 (sz.toNat:Int)):=cs 7 (by omega)
      have f0:=add_w sa a
      have f1:=add_w sb b
      have f2:=add_w sc c
      have f3:=add_w sd d
      have f4:=add_w se e
      have f5:=add_w sf f
      have f6:=add_w sy y
      have f7:=add_w sz z
      generalize sa+a=n0 at *
      generalize sb+b=n1 at *
      generalize sc+c=n2 at *
      generalize sd+d=n3 at *
      generalize se+e=n4 at *
      generalize sf+f=n5 at *
      generalize sy+y=n6 at *
      generalize sz+z=n7 at *
      obtain ⟨V,hV⟩:∃ V:Array Value,#[.int .u64 (n0.toNat:Int),.int .u64 (n1.toNat:Int),.int .u64 (n2.toNat:Int),.int .u64 (n3.toNat:Int),.int .u64 (n4.toNat:Int),.int .u64 (n5.toNat:Int),.int .u64 (n6.toNat:Int),.int .u64 (n7.toNat:Int)]=V:=⟨_,rfl⟩
      have nV:V.size=8:=by rw [← hV];rfl
      have oV:V.all (·.oneCell')=true:=by rw [← hV];exact zaU [n0,n1,n2,n3,n4,n5,n6,n7]
      have iV:(Tryz.prog.info? 87).map (·.size)=some V.size:=by rw [nV];kernel_rfl
      have sV:z8.size=V.size:=by rw [nV,n8]
      have HE:Hid (tabW (stepW ks ⟨sa,sb,sc,sd,se,sf,sy,sz⟩ m).l=V):=yh (by rw [hE,← hV];rfl)
      have h0:=HI.out.z
      have HB:=yh (show Below w.heap.size w (wr.setRow (g+1+1+1) V) by
        rw [HG.out]
        exact zay HI.out.below (by omega))
      have hB:=build_w z8 hz8 n8 n0.toNat n1.toNat n2.toNat n3.toNat n4.toNat n5.toNat n6.toNat n7.toNat wr
      rw [hV] at hB
      have HBB:=yh hB
      clear hB hV nV hE cs hv HI HB0 HB1 HCH HMA hk80
      go_wp2_with (first
        | (refine zaS (o:=⟨some 109,_,_,_,_,_⟩) rfl (.agg V) ?_ ?_
           · refine Eq.trans (b:=Sem.run Tryz.prog (do pure (Next.value (← Instr.build 87 #[(0,.int .u64 n0.toNat),(1,.int .u64 n1.toNat),(2,.int .u64 n2.toNat),(3,.int .u64 n3.toNat),(4,.int .u64 n4.toNat),(5,.int .u64 n5.toNat),(6,.int .u64 n6.toNat),(7,.int .u64 n7.toNat)]))) wr) (by kernel_rfl) (run_value HBB.out))
        | (refine yj V h0 iV sV oV ?_))
      (try simp only [Exit.inBlock,Exit.then])
      refine bodyPost_ret (results_cell_row rfl _ _ (g+1+1+1) _ V _ _ rfl (setRow_heap wr _ _ _ _ _ h0) Tryz.underlying87 rfl iV) rfl ?_
      exact ⟨by rw [HE.out],HB.out⟩
structure StepS (w W:World) (g:Nat) (S M:Array Value):Prop where
 s:W.heap[g]?=some (.cells S 87 (0,0))
 m:W.heap[g+1]?=some (.cells M 136 (0,0))
 z:∃ z:Array Value,z.size=8∧W.heap[g+1+1]?=some (.cells z 87 (0,0))
 below:Below g w W
theorem StepS.lt {w W:World} {g:Nat} {S M:Array Value} (h:StepS w W g S M):g+1+1<W.heap.size:=by
 obtain ⟨z,_,hz⟩:=h.z
 exact (Array.getElem?_eq_some_iff.1 hz).1
theorem StepS.call {w W W':World} {g:Nat} {S M:Array Value} (h:StepS w W g S M) (hb:Below W.heap.size W W'):StepS w W' g S M:=by
 have hl:=h.lt
 refine ⟨?_,?_,?_,h.below.trans (hb.mono (by omega))⟩
 ·rw [hb.block _ (by omega)];exact h.s
 ·rw [hb.block _ (by omega)];exact h.m
 ·rw [hb.block _ (by omega)];exact h.z
theorem StepS.drew {w W:World} {g:Nat} {S M:Array Value} (h:StepS w W g S M):StepS w W.drew g S M:=⟨h.s,h.m,h.z,h.below.drew⟩
theorem StepS.set {w W:World} {g:Nat} {S M:Array Value} (h:StepS w W g S M) {R:Array Value} (hR:R.size=8):StepS w (W.setRow (g+1+1) R) g S M:=by
 obtain ⟨z,_,hz⟩:=h.z
 exact ⟨by rw [setRow_other _ _ _ _ (by omega)];exact h.s,by rw [setRow_other _ _ _ _ (by omega)];exact h.m,⟨R,hR,setRow_heap _ _ _ _ _ _ hz⟩,zay h.below (by omega)⟩
theorem run_index_arrW {P:Program} {t e:TypeId} {n i:Nat} {v:Value} {w:World} {cs:Array Value} (k:IntKind) (h:P.underlying t=some (.array n e)) (hi:i<n)
  (ha:(isAgg e).run P w=.ok false w) (hs:(sizeOf e).run P w=.ok 1 w) (hv:cs[i]?=some v):(Instr.index t (.agg cs) (.int k (i:Int))).run P w=.ok v w:=by
 have h1:(0:Int)≤(i:Int)∧(i:Int)<(n:Int):=⟨by omega,by omega⟩
 simp [Instr.index,run_underlying h,asIntOf,h1,hi,go_sem,ha,hs,hv]
theorem hiB_take (x k:Nat) (hk:k<8):(hiB x).take (k+1)=(hiB x).take k++[UInt8.ofNat (x/2^(56-8*k))]:=by
 rw [List.take_add_one]
 congr 1
 simp [hiB,hk]
theorem happ_any (v:Value) (l:List UInt8) (base x:Nat) (w:World) (ho:Ob 5 w base v l) (hl:l.length≤100000) (hb:base≤w.heap.size) (hx:x<18446744073709551616) :
  Calls Tryz.prog 146 #[v,.int .u64 (x:Int)] w fun e w'=>∃ v',e=.returned v'∧Ob 5 w' base v' (l++hiB x)∧Below base w w':=by
 have Hpost:Hid (∀ v' w',Ob 5 w' base v' (l++hiB x)→Below base w w'→∃ v'',Ending.returned v'=.returned v''∧Ob 5 w' base v'' (l++hiB x)∧Below base w w'):=yh (fun v' w' ho hb=>⟨v',rfl,ho,hb⟩)
 have HO0:Hid (Ob 5 w base v (l++(hiB x).take 0)):=yh (by simpa using ho)
 have HL:=yh hl
 have HX:=yh hx
 have HB:=yh hb
 clear ho hl hx hb
 go_enter Tryz.func146,Tryz.ntmps146
 go_wp2
 go_loopw [0,5] (fun v i wr=>∃ k:Nat,k≤8∧i=.int .i64 (56-8*(k:Int))∧Hid (Ob 5 wr base v (l++(hiB x).take k))∧Hid (Below base w wr)) (fun _ i _=>(intOf i+8).toNat)
 case atStart=>exact ⟨0,by omega,rfl,HO0,yh (Below.refl _ _)⟩
 case round =>
  clear HO0
  obtain ⟨k,hk,rfl,HO,HBE⟩:=hrel
  by_cases hlt:k<8
  ·obtain ⟨s,hs⟩:∃ s,56-8*k=s:=⟨_,rfl⟩
   obtain ⟨q,hq⟩:∃ q,x/2^s=q:=⟨_,rfl⟩
   have hnx:=hiB_take x k hlt
   rw [hs,hq] at hnx
   have e1:56-8*(k:Int)=(s:Int):=by omega
   have e2:(s:Int)-8=56-8*((k+1:Nat):Int):=by omega
   have t3:(x:Int)/2^s=(q:Int):=by rw [← hq];simp
   have hql:q<18446744073709551616:=by rw [← hq];exact Nat.lt_of_le_of_lt (Nat.div_le_self _ _) HX.out
   have hs56:s≤56:=by omega
   obtain ⟨m,hm⟩:∃ m,l++(hiB x).take k=m:=⟨_,rfl⟩
   have hml:m.length≤100008:=by rw [← hm,List.length_append,List.length_take,zbF];have:=HL.out;omega
   have HN:Hid (l++(hiB x).take (k+1)=m++[UInt8.ofNat q]):=yh (by rw [hnx,← List.append_assoc,hm])
   rw [hm] at HO
   rw [e1]
   have HE2:=yh e2
   have HML:=yh hml
   have hbb:Bs (wr.alloc (.cells #[.int .u8 ((q:Int) % 256)] 5)) (some ⟨wr.heap.size,0,none⟩) [UInt8.ofNat q]:=fun _=>⟨_,_,rfl,fun j hj=>by
    have:j=0:=by simpa using hj
    subst this
    rw [cell_of_row _ _ _ _ _ _ (heap_alloc_new _ _)]
    simp⟩
   have HBB:=yh hbb
   have O1:=yh (Ob.below HO.out ((Below.refl _ wr).alloc (Nat.le_refl _) (.cells #[.int .u8 ((q:Int) % 256)] 5)))
   have HB1:Hid (Below base w (wr.alloc (.cells #[.int .u8 ((q:Int) % 256)] 5))):=yh (HBE.out.alloc (Nat.le_trans HB.out HBE.out.size) _)
   have HB1':Hid (base≤(wr.alloc (.cells #[.int .u8 ((q:Int) % 256)] 5)).heap.size):=yh (Nat.le_trans HB.out HB1.out.size)
   obtain ⟨A3,c3,rfl,-,-⟩:=HO.out.form
   clear hs hq hnx hm hml e1 e2 hbb HO HBE
   go_wp2_with (at_builtin;refine zaz rfl (.tmp 10) (.tmp 15) 23 rfl base 5 Tryz.underlying23 info5 _ m rfl O1.out _ [UInt8.ofNat q] _ _ rfl rfl HBB.out (by have:=HML.out;simp;omega) HB1'.out ?_;intro v5 w5 ho5 hgr5;have HB5:=yh (HB1.out.grown hgr5 HB1'.out (fun k hk=>O1.out.fresh k (own_at hk)));have HO5:=yh ho5;clear ho5 hgr5)
   go_roundw
   case rel=>exact ⟨k+1,by omega,by rw [← HE2.out],by rw [HN.out];exact HO5,HB5⟩
   case measure=>simp [intOf];omega
  ·obtain rfl:k=8:=by omega
   have HO2:Hid (Ob 5 wr base u0 (l++hiB x)):=yh (by
    have:=HO.out
    rwa [show (hiB x).take 8=hiB x from List.take_of_length_le (by rw [zbF];omega)] at this)
   clear HO
   obtain ⟨A3,c3,rfl,-,-⟩:=HO2.out.form
   go_wp2
   go_ret
   exact Hpost.out _ _ HO2.out HBE.out
theorem hbytes_any (s:St) (w:World):Calls Tryz.prog 107 #[.agg (tabW s.l)] w (RetOb 5 w (bytesS s)):=by
 have Hpost:Hid (∀ v w',Ob 5 w' w.heap.size v (bytesS s)→Below w.heap.size w w'→RetOb 5 w (bytesS s) (.returned v) w'):=yh (fun v w' ho hb=>⟨v,rfl,ho,hb⟩)
 have hlist:∀ k,k≤8→((s.l.take k).flatMap fun x=>hiB x.toNat).length=8*k:=fun k hk=>by
  have:∀ l:List W64,(l.flatMap fun x=>hiB x.toNat).length=8*l.length:=fun l=>by
   induction l with
   | nil=>rfl
   | cons a l ih=>rw [List.flatMap_cons,List.length_append,ih,zbF,List.length_cons];omega
  rw [this,List.length_take,St.len];omega
 have HLI:=yh hlist
 have hget:∀ k,k<8→(tabW s.l)[k]?=some (.int .u64 ((wG s.l k).toNat:Int)):=fun k hk=>za8 _ _ (by rw [St.len];exact hk)
 have hS8:(tabW s.l).size=8:=by rw [zam,St.len]
 obtain ⟨S,hS⟩:∃ t,tabW s.l=t:=⟨_,rfl⟩
 have h0:(w.alloc (.cells S 87)).heap[w.heap.size]?=some (.cells S 87 (0,0)):=heap_alloc_new _ _
 rw [hS] at hget hS8 ⊢
 have iS:(Tryz.prog.info? 87).map (·.size)=some S.size:=by rw [hS8];kernel_rfl
 have HGET:=yh hget
 obtain ⟨W1,hW1⟩:∃ W,w.alloc (.cells S 87)=W:=⟨_,rfl⟩
 have HB:Hid (Below w.heap.size w W1):=yh (by rw [← hW1];exact zae (Below.refl _ w) _)
 rw [hW1] at h0
 have HW1:=yh hW1
 clear hS hW1 hlist hget hS8
 go_enter Tryz.func107,Tryz.ntmps107
 go_wp2_with (refine yi (by rw [HW1.out];exact h0) Tryz.underlying87 iS ?_)
 rw [HW1.out]
 clear HW1 h0 iS
 go_loopw [3,7] (fun v i wr=>∃ k:Nat,k≤8∧i=.int .i64 (k:Int)∧Hid (Ob 5 wr W1.heap.size v ((s.l.take k).flatMap fun x=>hiB x.toNat))∧Hid (Below W1.heap.size W1 wr)) (fun _ i _=>8-(intOf i).toNat)
 case atStart=>exact ⟨0,by omega,rfl,yh (Ob.nil_ _ _ _),yh (Below.refl _ _)⟩
 case round =>
  obtain ⟨k,hk,rfl,HO,HBE⟩:=hrel
  by_cases hlt:k<8
  ·obtain ⟨x,hx⟩:∃ x,wG s.l k=x:=⟨_,rfl⟩
   have hix:∀ u:World,(Instr.index 87 (.agg S) (.int .i64 (k:Int))).run Tryz.prog u=.ok (.int .u64 (x.toNat:Int)) u:=fun u=>by
    refine run_index_arrW (e:=61) (n:=8) .i64 (by kernel_rfl) hlt (by kernel_rfl) (by kernel_rfl) ?_
    rw [HGET.out k hlt,hx]
   have hnx:((s.l.take (k+1)).flatMap fun x=>hiB x.toNat)=((s.l.take k).flatMap fun x=>hiB x.toNat)++hiB x.toNat:=by
    have e:s.l.take (k+1)=s.l.take k++[x]:=by
     have hl:=St.len s
     rw [List.take_add_one]
     congr 1
     rw [← hx]
     simp [wG,List.getD,List.getElem?_eq_getElem (show k<s.l.length by omega)]
    rw [e,List.flatMap_append]
    simp
   have HNX:=yh hnx
   have hlen:=HLI.out k hk
   obtain ⟨m,hm⟩:∃ m,((s.l.take k).flatMap fun x=>hiB x.toNat)=m:=⟨_,rfl⟩
   rw [hm] at HO HNX hlen
   have HAP:=yh (happ_any u3 m W1.heap.size x.toNat wr HO.out (by omega) HBE.out.size x.isLt)
   have p1:0≤(k:Int):=by omega
   have p2:(k:Int)<8:=by omega
   obtain ⟨A3,c3,rfl,-,-⟩:=HO.out.form
   clear hx hnx hm hlen HO
   go_wp2_with fail
   with_reducible refine HAP.out.mono ?_
   rintro e w4 ⟨v4,rfl,ho4,hb4⟩
   have HO5:=yh ho4
   have HB5:=yh (HBE.out.trans hb4)
   clear ho4 hb4 HBE HAP
   go_wp2_with fail
   go_roundw
   case rel=>exact ⟨k+1,by omega,by go_num,by rw [HNX.out];exact HO5,HB5⟩
   case measure=>simp [intOf];omega
  ·obtain rfl:k=8:=by omega
   have HO2:Hid (Ob 5 wr W1.heap.size u3 (bytesS s)):=yh (by
    have:=HO.out
    rwa [show s.l.take 8=s.l from List.take_of_length_le (by rw [St.len];omega)] at this)
   clear HO
   obtain ⟨A3,c3,rfl,-,-⟩:=HO2.out.form
   go_wp2_with fail
   go_ret
   exact Hpost.out _ _ (HO2.out.low HB.out.size) (zaa HB.out HBE.out)
theorem hpad_any (n:Nat) (w:World) (hn:n≤1152921504606866976):Calls Tryz.prog 106 #[.int .u64 (n:Int)] w (RetOb 5 w (padB n)):=by
 have Hpost:Hid (∀ v w',Ob 5 w' w.heap.size v (padB n)→Below w.heap.size w w'→RetOb 5 w (padB n) (.returned v) w'):=yh (fun v w' ho hb=>⟨v,rfl,ho,hb⟩)
 obtain ⟨Z,hZ⟩:∃ Z,(239-n % 128) % 128=Z:=⟨_,rfl⟩
 obtain ⟨x1,hx1⟩:∃ x,n/2^61=x:=⟨_,rfl⟩
 obtain ⟨x2,hx2⟩:∃ x,n*8 % 2^64=x:=⟨_,rfl⟩
 have hP:padB n=((128 :: List.replicate Z 0)++hiB x1)++hiB x2:=by unfold padB;rw [hZ,hx1,hx2];simp
 have HP:=yh hP
 have HZ:=yh hZ
 have hx1l:x1<18446744073709551616:=by omega
 have hx2l:x2<18446744073709551616:=by omega
 have HX1:=yh hx1l
 have HX2:=yh hx2l
 have t1:(n:Int)/2305843009213693952=(x1:Int):=by omega
 have t2:IntKind.u64.wrap ((n:Int)*8)=(x2:Int):=by rw [IntKind.wrap_u64];omega
 have hb0:Ob 5 (w.alloc (.cells #[.int .u8 128] 5)) w.heap.size (.slice (some ⟨w.heap.size,0,none⟩) 1 1) (128 :: List.replicate 0 0):=by
  refine ⟨by simp,.inr ⟨w.heap.size,1,_,by simp,Nat.le_refl _,heap_alloc_new _ _,by simp,by unfold maxLen;omega,by simp,by simp [bval]⟩⟩
 have HB0:Hid (Below w.heap.size w (w.alloc (.cells #[.int .u8 128] 5))):=yh (zae (Below.refl _ w) _)
 have HO0:=yh hb0
 have HN:=yh hn
 clear hP hZ hx1 hx2 hx1l hx2l hb0 hn
 go_enter Tryz.func106,Tryz.ntmps106
 go_wp2_with fail
 obtain ⟨W1,hW1⟩:∃ W,w.alloc (.cells #[.int .u8 128] 5)=W:=⟨_,rfl⟩
 rw [hW1] at HO0 HB0
 rw [hW1]
 clear hW1
 go_loopw [3] (fun v wr=>∃ k M:Nat,k≤Z∧M=k+1∧∃ A c,v=.slice A M c∧Hid (Ob 5 wr w.heap.size (.slice A M c) (128 :: List.replicate k 0))∧Hid (Below w.heap.size w wr)) (fun v _=>Z+1-sLen v)
 case atStart=>exact ⟨0,1,by omega,rfl,_,_,rfl,HO0,HB0⟩
 case round =>
  clear HO0 HB0
  obtain ⟨k,M,hk,hM,A,c,rfl,HO,HBE⟩:=hrel
  obtain ⟨S,hS⟩:∃ S,n+M=S:=⟨_,rfl⟩
  obtain ⟨r,hr⟩:∃ r,S % 128=r:=⟨_,rfl⟩
  have hz:=HZ.out
  have hn:=HN.out
  have hMl:M≤200:=by omega
  have t3:IntKind.u64.wrap ((n:Int)+(M:Int))=(S:Int):=by rw [IntKind.wrap_u64];omega
  have t4:(S:Int).tmod 128=(r:Int):=by rw [Int.tmod_eq_emod_of_nonneg (by omega)];omega
  have t5:(S:Int) % 128=(r:Int):=by omega
  have t6:IntKind.u64.wrap (M:Int)=(M:Int):=by rw [IntKind.wrap_u64];omega
  have t7:IntKind.u64.wrap (r:Int)=(r:Int):=by rw [IntKind.wrap_u64];omega
  have HM:=yh hM
  have HK:=yh hk
  by_cases hlt:k<Z
  ·have hne:¬ (r:Int)=112:=by omega
   have HM2:Hid (M+1=k+1+1):=yh (by omega)
   have HKZ:=yh hlt
   have hbb:Bs (wr.alloc (.cells #[.int .u8 0] 5)) (some ⟨wr.heap.size,0,none⟩) [0]:=fun _=>⟨_,_,rfl,fun j hj=>by
    have:j=0:=by simpa using hj
    subst this
    rw [cell_of_row _ _ _ _ _ _ (heap_alloc_new _ _)]
    simp⟩
   have HBB:=yh hbb
   have O1:=yh (Ob.below HO.out ((Below.refl _ wr).alloc (Nat.le_refl _) (.cells #[.int .u8 0] 5)))
   have HB1:Hid (Below w.heap.size w (wr.alloc (.cells #[.int .u8 0] 5))):=yh (zae HBE.out _)
   have HML:Hid (k≤1000):=yh (by omega)
   clear hS hr hz hn hM hk hlt hbb HO HBE
   go_wp2_with (at_builtin;refine zaz rfl (.tmp 12) (.tmp 13) 23 rfl w.heap.size 5 Tryz.underlying23 info5 _ (128 :: List.replicate k 0) rfl O1.out _ [0] _ _ rfl rfl HBB.out (by have:=HML.out;simp;omega) HB1.out.size ?_;intro v5 w5 ho5 hgr5;rw [show (128 :: List.replicate k 0)++[0]=128 :: List.replicate (k+1) (0:UInt8) by rw [List.cons_append,← List.replicate_succ']] at ho5;have HB5:=yh (HB1.out.grown hgr5 HB1.out.size (fun k hk=>O1.out.fresh k (own_at hk)));obtain ⟨A5,c5,rfl,-,-⟩:=ho5.formL (n:=M+1) (by simp;have:=HM2.out;omega);have HO5:=yh ho5;clear ho5 hgr5)
   go_roundw
   case rel=>exact ⟨k+1,M+1,by have:=HKZ.out;omega,HM2.out,A5,c5,rfl,HO5,HB5⟩
   case measure=>simp [sLen];have:=HKZ.out;have:=HM.out;omega
  ·have he:(r:Int)=112:=by omega
   have hkZ:k=Z:=by omega
   have HO2:Hid (Ob 5 wr w.heap.size (.slice A M c) (128 :: List.replicate Z 0)):=yh (by have:=HO.out;rwa [hkZ] at this)
   have HAP:=yh (happ_any (.slice A M c) (128 :: List.replicate Z 0) w.heap.size x1 wr HO2.out (by simp;omega) HBE.out.size HX1.out)
   have HZl:Hid (Z≤127):=yh (by omega)
   clear hS hr hz hn hM hk hlt hkZ HO HO2
   go_wp2_with fail
   with_reducible refine HAP.out.mono ?_
   rintro e w4 ⟨v4,rfl,ho4,hb4⟩
   have HB4:=yh (HBE.out.trans hb4)
   have HAQ:=yh (happ_any v4 _ w.heap.size x2 w4 ho4 (by simp [zbF];have:=HZl.out;omega) HB4.out.size HX2.out)
   obtain ⟨M4,hM4⟩:∃ n,(128 :: List.replicate Z 0++hiB x1).length=n:=⟨_,rfl⟩
   obtain ⟨A4,c4,rfl,-,-⟩:=ho4.formL hM4
   clear ho4 hb4 HAP
   go_wp2_with fail
   with_reducible refine HAQ.out.mono ?_
   rintro e w5 ⟨v5,rfl,ho5,hb5⟩
   rw [← HP.out] at ho5
   have HO5:=yh ho5
   have HB5:=yh (HB4.out.trans hb5)
   clear ho5 hb5 HAQ
   go_wp2_with fail
   go_ret
   exact Hpost.out _ _ HO5.out HB5.out
theorem setCells_row {P:Program} {w:World} {g o:Nat} {t:TypeId} {cur:Array Value} {vs:List Value} (hg:w.heap[g]?=some (.cells cur t (0,0))) (hl:o+vs.length≤cur.size) (h1:∀ v ∈ vs,v.oneCell'=true) :
  w.setCells g o vs=w.setRow g (cur.toList.take o++vs++cur.toList.drop (o+vs.length)).toArray:=by
 have a:=run_storeCells_at P g o t vs 0 cur w hg (by simpa using hl) h1
 have b:=run_storeCells_cells (P:=P) g o vs 0 w (fun j hj=>by
   rw [cell_of_row _ _ _ _ _ _ hg];simp;omega) (fun j hj=>by simp [World.frozen?,hg]) h1
 rw [a] at b
 simp only [Nat.add_zero] at b
 injection b with _ b
 exact b.symm
def zba (b:Bool) (s:List W64) (n:Nat) (k:List UInt8):List Value:=.bool b :: (s.map wv++(.int .u64 (n:Int) :: k.map bval))
theorem hcells_len (b:Bool) {s:List W64} (n:Nat) {k:List UInt8} (hs:s.length=8) (hk:k.length=128):(zba b s n k).length=138:=by
 simp [zba,hs,hk]
theorem hcells_s (b:Bool) {s:List W64} (n:Nat) {k:List UInt8} (hs:s.length=8) (j:Nat) (hj:j<8):(zba b s n k)[1+j]?=(s.map wv)[j]?:=by
 rw [zba,Nat.add_comm 1 j,List.getElem?_cons_succ,List.getElem?_append_left (by simp;omega)]
theorem hcells_n (b:Bool) {s:List W64} (n:Nat) {k:List UInt8} (hs:s.length=8):(zba b s n k)[9]?=some (.int .u64 (n:Int)):=by
 rw [zba,List.getElem?_cons_succ,List.getElem?_append_right (by simp;omega)]
 simp [hs]
theorem hcells_k (b:Bool) {s:List W64} (n:Nat) {k:List UInt8} (hs:s.length=8) (j:Nat):(zba b s n k)[10+j]?=(k.map bval)[j]?:=by
 rw [zba,show 10+j=(9+j)+1 by omega,List.getElem?_cons_succ,List.getElem?_append_right (by simp;omega)]
 rw [show 9+j-(s.map wv).length=j+1 by simp;omega,List.getElem?_cons_succ]
theorem hcells_setS (b:Bool) {s s':List W64} (n:Nat) {k:List UInt8} (hs:s.length=8) (hs':s'.length=8):(zba b s n k).take 1++s'.map wv++(zba b s n k).drop (1+(s'.map wv).length)=zba b s' n k:=by
 have e:(s'.map wv).length=8:=by simp [hs']
 rw [e]
 unfold zba
 rw [show 1+8=8+1 from rfl,List.drop_succ_cons,List.take_succ_cons,List.take_zero,List.drop_append_of_le_length (by simp;omega),List.drop_eq_nil_of_le (by simp;omega)]
 simp
theorem hcells_setN (b:Bool) {s:List W64} (n n':Nat) {k:List UInt8} (hs:s.length=8):(zba b s n k).set 9 (.int .u64 (n':Int))=zba b s n' k:=by
 unfold zba
 rw [List.set_cons_succ,List.set_append,if_neg (by simp;omega),show 8-(s.map wv).length=0 by simp;omega,List.set_cons_zero]
theorem hcells_setK (b:Bool) {s:List W64} (n:Nat) {k:List UInt8} (hs:s.length=8) (r:Nat) (x:List UInt8):(zba b s n k).take (10+r)++x.map bval++(zba b s n k).drop (10+r+(x.map bval).length)=zba b s n (k.take r++x++k.drop (r+x.length)):=by
 have e:(x.map bval).length=x.length:=by simp
 rw [e]
 have hh:∀ y:List UInt8,zba b s n y=(Value.bool b :: (s.map wv++[Value.int .u64 (n:Int)]))++y.map bval:=fun y=>by simp [zba]
 have hl:(Value.bool b :: (s.map wv++[Value.int .u64 (n:Int)])).length=10:=by simp [hs]
 rw [hh,hh]
 generalize (Value.bool b :: (s.map wv++[Value.int .u64 (n:Int)]))=p at *
 rw [List.take_append,List.take_of_length_le (by omega),hl,show 10+r-10=r by omega,List.drop_append,List.drop_eq_nil_of_le (by omega),hl,show 10+r+x.length-10=r+x.length by omega]
 simp [List.map_take,List.map_drop]
structure HA (W:World) (g:Nat) (b:Bool) (s:St) (n:Nat) (k:List UInt8):Prop where
 row:W.heap[g]?=some (.cells (zba b s.l n k).toArray 133 (0,0))
 len:k.length=128
section
variable {W W':World} {g n:Nat} {b:Bool} {s:St} {k:List UInt8}
theorem HA.lt (h:HA W g b s n k):g<W.heap.size:=(Array.getElem?_eq_some_iff.1 h.row).1
theorem HA.only {Q:Nat→Prop} (h:HA W g b s n k) (ho:Only Q W W') (hq:¬ Q g):HA W' g b s n k:=⟨by rw [ho.block g h.lt hq];exact h.row,h.len⟩
theorem HA.below {B:Nat} (h:HA W g b s n k) (hb:Below B W W') (hB:g<B):HA W' g b s n k:=⟨by rw [hb.block g hB];exact h.row,h.len⟩
theorem HA.next (h:HA W g b s n k) (hb:Below W.heap.size W W'):HA W' g b s n k:=h.below hb h.lt
theorem HA.drew (h:HA W g b s n k):HA W.drew g b s n k:=⟨h.row,h.len⟩
theorem HA.drewN (h:HA W g b s n k) (i:Nat):HA (W.drewN i) g b s n k:=⟨h.row,h.len⟩
theorem HA.alloc (h:HA W g b s n k) (o:Obj):HA (W.alloc o) g b s n k:=⟨by rw [heap_alloc_old _ _ h.lt];exact h.row,h.len⟩
theorem HA.at_ (h:HA W g b s n k) (j:Nat):W.cell? ⟨g,j,none⟩=(zba b s.l n k)[j]?:=by
 rw [cell_of_row _ _ _ _ _ _ h.row];simp
theorem HA.cb (h:HA W g b s n k):W.cell? ⟨g,0,none⟩=some (.bool b):=by rw [h.at_];rfl
theorem HA.cn (h:HA W g b s n k):W.cell? ⟨g,9,none⟩=some (.int .u64 (n:Int)):=by rw [h.at_,hcells_n _ _ (St.len s)]
theorem HA.fz (h:HA W g b s n k) (j:Nat):W.frozen? ⟨g,j,none⟩=false:=by simp [World.frozen?,h.row]
theorem HA.cs (h:HA W g b s n k):W.rangeAt g 1 (s.l.map wv):=fun j v hj=>by
 have hj8:j<8:=by have:=(List.getElem?_eq_some_iff.1 hj).1;simpa [St.len] using this
 rw [h.at_,hcells_s _ _ (St.len s) _ hj8,hj]
theorem HA.bs (h:HA W g b s n k):Bs W (some ⟨g,10,none⟩) k:=fun hl=>⟨g,10,rfl,fun j hj=>by
 rw [h.at_,hcells_k _ _ (St.len s),List.getElem?_map,List.getElem?_eq_getElem hj]
 simp [bval,List.getD,List.getElem?_eq_getElem hj]⟩
theorem HA.all (h:HA W g b s n k):W.rangeAt g 0 (zba b s.l n k):=fun j v hj=>by
 rw [Nat.zero_add,h.at_,hj]
theorem HA.setN (h:HA W g b s n k) (n':Nat):HA (W.setCell ⟨g,9,none⟩ (.int .u64 (n':Int))) g b s n' k∧Only (fun j=>j=g) W (W.setCell ⟨g,9,none⟩ (.int .u64 (n':Int))):=by
 refine ⟨⟨?_,h.len⟩,(Only.refl (fun j=>j=g) W).setCell (p:=⟨g,9,none⟩) (.inl rfl) _⟩
 rw [setCell_eq_setRow W g 9 _ _ _ _ h.row,setRow_heap _ _ _ _ _ _ h.row]
 simp [← hcells_setN b n n' (St.len s)]
theorem only_setRow {g:Nat} {cs:Array Value}:Only (fun j=>j=g) W (W.setRow g cs):=⟨rfl,rfl,rfl,by simp,fun j hj hn=>setRow_other _ _ _ _ hn⟩
theorem HA.setS (h:HA W g b s n k) (s':St):HA (W.setCells g 1 (tabW s'.l).toList) g b s' n k∧Only (fun j=>j=g) W (W.setCells g 1 (tabW s'.l).toList):=by
 have e:(tabW s'.l).toList=s'.l.map wv:=by simp [tabW]
 have hl:=hcells_len b (s:=s.l) n (St.len s) h.len
 rw [e,setCells_row (P:=Tryz.prog) h.row (by simp [hl,St.len]) (fun v hv=>by obtain ⟨x,_,rfl⟩:=List.mem_map.1 hv;rfl)]
 refine ⟨⟨?_,h.len⟩,only_setRow⟩
 rw [setRow_heap _ _ _ _ _ _ h.row]
 simp only
 rw [hcells_setS b n (St.len s) (St.len s')]
theorem HA.setK (h:HA W g b s n k) (r:Nat) (x:List UInt8) (hr:r+x.length≤128) :
  HA (W.setRow g ((zba b s.l n k).take (10+r)++x.map bval++(zba b s.l n k).drop (10+r+(x.map bval).length)).toArray) g b s n (k.take r++x++k.drop (r+x.length)):=by
 have hk:=h.len
 refine ⟨?_,by simp;omega⟩
 rw [setRow_heap _ _ _ _ _ _ h.row,hcells_setK b n (St.len s)]
end
def HSh (W:World) (g:Nat) (h:Sh):Prop:=h.ok∧∃ k,HA W g true h.s h.n k∧k.take (h.n % 128)=h.t
theorem HSh.lt {W:World} {g:Nat} {h:Sh} (hs:HSh W g h):g<W.heap.size:=by obtain ⟨_,k,ha,_⟩:=hs;exact ha.lt
theorem HSh.only {W W':World} {g:Nat} {h:Sh} {Q:Nat→Prop} (hs:HSh W g h) (ho:Only Q W W') (hq:¬ Q g):HSh W' g h:=by
 obtain ⟨hk,k,ha,ht⟩:=hs;exact ⟨hk,k,ha.only ho hq,ht⟩
theorem HSh.next {W W':World} {g:Nat} {h:Sh} (hs:HSh W g h) (hb:Below W.heap.size W W'):HSh W' g h:=by
 obtain ⟨hk,k,ha,ht⟩:=hs;exact ⟨hk,k,ha.next hb,ht⟩
def HashH:HashP:=fun W g h F=>(∀ j,F j↔j=g)∧(HSh W g h∨∃ s k,HA W g false s 0 k∧h=Sh.nil)
theorem HashH.ok {W:World} {g:Nat} {h:Sh} {F:Nat→Prop} (hh:HashH W g h F):h.ok:=by
 rcases hh.2 with hs | ⟨s,k,_,rfl⟩
 ·exact hs.1
 ·exact Sh.nil_ok
theorem HashH.lt {W:World} {g:Nat} {h:Sh} {F:Nat→Prop} (hh:HashH W g h F):∀ j,F j→j<W.heap.size:=fun j hj=>by
 have e:=(hh.1 j).1 hj
 subst e
 rcases hh.2 with hs | ⟨s,k,ha,rfl⟩
 ·exact hs.lt
 ·exact ha.lt
def heldN (n:Nat) (l:List UInt8):Nat:=Nat.min l.length (128-n % 128)
def heldK (n:Nat) (k l:List UInt8):List UInt8:=k.take (n % 128)++l.take (heldN n l)++k.drop (n % 128+heldN n l)
theorem heldK_len {n:Nat} {k:List UInt8} (l:List UInt8) (hk:k.length=128):(heldK n k l).length=128:=by
 have:heldN n l≤128-n % 128:=Nat.min_le_right _ _
 have:heldN n l≤l.length:=Nat.min_le_left _ _
 simp [heldK];omega
theorem hold_short {h:Sh} {k:List UInt8} (l:List UInt8) (ho:h.ok) (hk:k.length=128) (ht:k.take (h.n % 128)=h.t) (hl:h.n % 128+l.length<128) :
  heldN h.n l=l.length∧(h.add l).s=h.s∧(h.add l).n=h.n+l.length∧(heldK h.n k l).take ((h.n+l.length) % 128)=(h.add l).t:=by
 have hm:heldN h.n l=l.length:=Nat.min_eq_left (by omega)
 unfold Sh.ok at ho
 have e:(h.t++l).length<128:=by rw [List.length_append];omega
 refine ⟨hm,over_short _ _ e,rfl,?_⟩
 show _=restL (h.t++l)
 rw [restL_short _ e]
 unfold heldK
 rw [hm,ht,List.take_of_length_le (Nat.le_refl l.length),show (h.n+l.length) % 128=h.n % 128+l.length by omega]
 apply List.take_left'
 rw [List.length_append,ho]
theorem hold_full {h:Sh} {k:List UInt8} (l:List UInt8) (ho:h.ok) (hk:k.length=128) (ht:k.take (h.n % 128)=h.t) (hl:128≤h.n % 128+l.length) :
  heldN h.n l=128-h.n % 128∧heldK h.n k l=h.t++l.take (128-h.n % 128) ∧
   h.add (l.take (128-h.n % 128))=⟨stepW ksL h.s (zbe (h.t++l.take (128-h.n % 128))),h.n+(128-h.n % 128),[]⟩:=by
 have hm:heldN h.n l=128-h.n % 128:=Nat.min_eq_right (by omega)
 unfold Sh.ok at ho
 have hl1:(l.take (128-h.n % 128)).length=128-h.n % 128:=by rw [List.length_take];omega
 have e:(h.t++l.take (128-h.n % 128)).length=128:=by rw [List.length_append,ho,hl1];omega
 refine ⟨hm,?_,?_⟩
 ·unfold heldK
  rw [hm,ht,List.drop_eq_nil_of_le (by omega),List.append_nil]
 ·unfold Sh.add
  rw [hl1]
  congr 1
  ·unfold over
   rw [e]
   show stepW ksL h.s (zbe (zbo _ 0))=_
   unfold zbo
   rw [List.drop_zero,List.take_of_length_le (by omega)]
  ·apply List.eq_nil_of_length_eq_zero
   rw [restL_len,e]
theorem hheld_any {g n:Nat} {s:St} {k:List UInt8} {b:Bool} (W:World) (ha:HA W g b s n k) (hn:n≤4611686018427387904) :
  Calls Tryz.prog 103 #[.pointer (some ⟨g,0,none⟩)] W fun e w'=>e=.returned (.int .i64 ((n % 128:Nat):Int))∧w'=W:=by
 have hc:=ha.cn
 obtain ⟨r,hr⟩:∃ r,n % 128=r:=⟨_,rfl⟩
 rw [hr]
 have hr':r<128:=by omega
 have t1:(n:Int).tmod 128=(r:Int):=by rw [Int.tmod_eq_emod_of_nonneg (by omega)];omega
 have t2:(n:Int) % 128=(r:Int):=by omega
 clear hr ha
 go_enter Tryz.func103,Tryz.ntmps103
 go_wp2
 go_ret
 first | exact ⟨rfl,rfl⟩ | exact ⟨rfl,trivial⟩
theorem slice_block (g r:Nat) (hr:r<128) (u:World):(Instr.sliceAt 131 (.pointer (some ⟨g,10,none⟩)) (some (.int .i64 (r:Int))) none none).run Tryz.prog u=.ok (.slice (some ⟨g,10+r,none⟩) (128-r) (128-r)) u:=by
 have hu:Tryz.prog.underlying 131=some (.array (Tryz.prog.arrayLen 131) (Tryz.prog.elem 131)):=by kernel_rfl
 have hl:Tryz.prog.arrayLen 131=128:=by kernel_rfl
 have hz:∀ W:World,(sizeOf (Tryz.prog.elem 131)).run Tryz.prog W=.ok 1 W:=fun W=>by kernel_rfl
 rw [run_sliceAt_array_l u _ _ hu .i64 (r:Int) (by omega) (by rw [hl];omega),hz,hl]
 simp only [Result.andThen,slicedAt,Int.toNat_natCast,Nat.mul_one]
 rw [if_neg (by omega),addr_add]
theorem slice_block_all (g:Nat) (u:World):(Instr.sliceAt 131 (.pointer (some ⟨g,10,none⟩)) none none none).run Tryz.prog u=.ok (.slice (some ⟨g,10,none⟩) 128 128) u:=by
 have hu:Tryz.prog.underlying 131=some (.array (Tryz.prog.arrayLen 131) (Tryz.prog.elem 131)):=by kernel_rfl
 have hl:Tryz.prog.arrayLen 131=128:=by kernel_rfl
 have hz:∀ W:World,(sizeOf (Tryz.prog.elem 131)).run Tryz.prog W=.ok 1 W:=fun W=>by kernel_rfl
 rw [run_sliceAt_array_all u _ _ hu,hz,hl]
 simp only [Result.andThen,slicedAt]
 rfl
theorem wpList_copy_block {w:World} {ops:Array Oper} {rest:List Oper} {o:Oper} {a:Act} {Q:Exit→Act→World→Prop} (hgd:o.guard=none) (d x:Operand)
  (ho:o.op=.call { callee:=.builtin .copy,args:=#[d,x],argTypes:=#[23,23] }) {g n:Nat} {b:Bool} {s:St} {k:List UInt8} (r L C:Nat) (A:Option Addr) (l:List UInt8) (c:Nat)
  (hd:a.eval d=.slice (some ⟨g,10+r,none⟩) L C) (hx:a.eval x=.slice A l.length c) (ha:HA w g b s n k) (hb:Bs w A l) (hL:r+L=128) (m:Nat) (hm:m=Nat.min l.length L)
  (h:∀ w',HA w' g b s n (k.take r++l.take m++k.drop (r+m))→Only (fun j=>j=g) w w'→wpList Tryz.prog ops Q rest (a.put o.dst (goInt m)) w'):wpList Tryz.prog ops Q (o :: rest) a w:=by
 refine wpList_plain hgd fun K hK=>?_
 have hml:m≤l.length:=by rw [hm];exact Nat.min_le_left _ _
 have hmL:m≤L:=by rw [hm];exact Nat.min_le_right _ _
 have hk:=ha.len
 have hcl:=hcells_len b (s:=s.l) n (St.len s) hk
 have:∃ w',(Builtin.copy_ #[23,23] o.type #[.slice (some ⟨g,10+r,none⟩) L C,.slice A l.length c]).run Tryz.prog w=.ok (goInt m) w'∧HA w' g b s n (k.take r++l.take m++k.drop (r+m))∧Only (fun j=>j=g) w w':=by
  by_cases h0:l.length=0
  ·have:l=[]:=List.eq_nil_of_length_eq_zero h0
   subst this
   have hm0:m=0:=by simp at hml;omega
   subst hm0
   refine ⟨w,run_copy_none (P:=Tryz.prog) w _ _ o.type 5 (some ⟨g,10+r,none⟩) A L C 0 c Tryz.underlying23 (by kernel_rfl) (by simp),?_,Only.refl _ _⟩
   simpa using ha
  ·obtain ⟨b',o',rfl,hc⟩:=hb (by omega)
   have hcs:((l.take m).map bval).length=m:=by simp;omega
   have hrun:=run_copy_row (P:=Tryz.prog) w 23 23 o.type 5 g (10+r) L C ⟨b',o',none⟩ l.length c _ 133 ((l.take m).map bval) Tryz.underlying23 (by kernel_rfl) ha.row (by rw [hcs];exact hm)
    (fun j v hj=>(Bs.news (w:=w) (a:=⟨b',o',none⟩) (l:=l) hb) j v (by
     have:j<m:=by
      rcases Nat.lt_or_ge j m with h | h
      ·exact h
      ·rw [List.getElem?_eq_none (by rw [hcs];exact h)] at hj;cases hj
     simpa [List.getElem?_take,this] using hj)) (by rw [hcs];simp [hcl];omega) (fun v hv=>by obtain ⟨x,_,rfl⟩:=List.mem_map.1 hv;rfl)
   rw [hcs] at hrun
   have hK:=ha.setK r (l.take m) (by rw [List.length_take];omega)
   rw [hcs,show (l.take m).length=m by rw [List.length_take];omega] at hK
   exact ⟨_,hrun,hK,only_setRow⟩
 obtain ⟨w',hrun,h2,h3⟩:=this
 unfold Oper.wp execOp
 simp only [ho,resolve,invoke,builtin,Sem.run_bind,Sem.run_pure,Result.andThen_ok,List.map_toArray,List.map_cons,List.map_nil,hd,hx,hrun]
 exact hK _ _ (h w' h2 h3)
theorem hhold_any {g n:Nat} {s:St} {k:List UInt8} (W:World) (A:Option Addr) (l:List UInt8) (c:Nat) (ha:HA W g true s n k) (hb:Bs W A l) (hn:n≤2305843009213693952) (hl:l.length≤1000000) :
  Calls Tryz.prog 102 #[.pointer (some ⟨g,0,none⟩),.slice A l.length c] W fun e w'=>e=.returned (.int .i64 (heldN n l:Int))∧HA w' g true s (n+heldN n l) (heldK n k l)∧Only (fun j=>j=g) W w':=by
 unfold heldK
 obtain ⟨m,hm⟩:∃ m,heldN n l=m:=⟨_,rfl⟩
 obtain ⟨r,hr⟩:∃ r,n % 128=r:=⟨_,rfl⟩
 have hm':m=Nat.min l.length (128-r):=by rw [← hm,heldN,hr]
 have hml:m≤128:=by
   have:m≤128-r:=by rw [hm'];exact Nat.min_le_right _ _
   omega
 rw [hm,hr]
 have hr':r<128:=by omega
 have HHE:Hid (Calls Tryz.prog 103 #[.pointer (some ⟨g,0,none⟩)] (W.drewN 1) fun e w'=>e=.returned (.int .i64 (r:Int))∧w'=W.drewN 1):=yh (by
  have:=hheld_any (W.drewN 1) (ha.drewN 1) (by omega)
  rwa [hr] at this)
 have hsl:=fun u=>slice_block g r hr' u
 have HA1:Hid (HA (W.drewN 1) g true s n k):=yh (ha.drewN 1)
 have HB1:Hid (Bs (W.drewN 1) A l):=yh hb
 have HM:=yh hm'
 have HR:Hid (r+(128-r)=128):=yh (by omega)
 have HO1:Hid (∀ w',Only (fun j=>j=g) (W.drewN 1) w'→Only (fun j=>j=g) W w'):=yh (fun w' h=>((Only.refl _ _).drewN 1).trans h)
 have t1:IntKind.u64.wrap (m:Int)=(m:Int):=by rw [IntKind.wrap_u64];omega
 have t2:IntKind.u64.wrap ((n:Int)+(m:Int))=((n+m:Nat):Int):=by rw [IntKind.wrap_u64];omega
 obtain ⟨N,hN⟩:∃ N,n+m=N:=⟨_,rfl⟩
 rw [hN] at t2 ⊢
 obtain ⟨L,hL⟩:∃ L,128-r=L:=⟨_,rfl⟩
 rw [hL] at hsl HM HR
 clear ha hb hm hr hm' hN hL
 go_enter Tryz.func102,Tryz.ntmps102
 go_wp2_with fail
 refine wp_region_still_tail 7 (by kernel_rfl) (by kernel_rfl) ?_
 simp only [List.take_succ_cons,List.take_zero,List.drop_succ_cons,List.drop_zero]
 iterate 4 still_step
 still_call (HHE.out)
 iterate 2 still_step
 refine wpStill_nil ?_
 go_wp2_with (refine wpList_copy_block rfl (.tmp 11) (.tmp 12) rfl r L L A l c rfl rfl HA1.out HB1.out HR.out m HM.out ?_;intro w2 ha2 ho2;have hc2:=ha2.cn;have hf2:=ha2.fz 9;have HA2:=yh (ha2.setN N);have HO2:=yh (HO1.out _ ho2);clear ha2 ho2)
 go_ret
 exact ⟨rfl,HA2.out.1,HO2.out.trans HA2.out.2⟩
theorem build_hash (s:St) (u:World):(Instr.build 133 #[(0,.bool true),(1,.agg (tabW s.l))]).run Tryz.prog u=.ok (.agg (zba true s.l 0 (List.replicate 128 0)).toArray) u:=by
 obtain ⟨a,b,c,d,e,f,g,h⟩:=s
 exact run_build u _ _ _ (by kernel_rfl)
theorem hnew_any (W:World):Calls Tryz.prog 48 #[] W fun e w'=>∃ g,e=.returned (.pointer (some ⟨g,0,none⟩))∧HSh w' g Sh.nil∧W.heap.size≤g∧Below W.heap.size W w':=by
 have HB:Hid (∀ W:World,Calls Tryz.prog 101 #[] W fun e w'=>e=.returned (.agg (tabW begS.l))∧Below W.heap.size W w'):=yh (by rw [← tabW_beg];exact fun W=>begin_any W)
 have hbu:=fun u=>build_hash begS u
 have HP:Hid (∀ w1:World,Below W.heap.size W w1→HSh (w1.alloc (.cells (zba true begS.l 0 (List.replicate 128 0)).toArray 133)) w1.heap.size Sh.nil∧W.heap.size≤w1.heap.size∧Below W.heap.size W (w1.alloc (.cells (zba true begS.l 0 (List.replicate 128 0)).toArray 133))) :=
  yh (fun w1 h1=>⟨⟨Sh.nil_ok,List.replicate 128 0,⟨heap_alloc_new _ _,by simp⟩,by simp [Sh.nil]⟩,h1.size,zae h1 _⟩)
 obtain ⟨V,hV⟩:∃ V,(zba true begS.l 0 (List.replicate 128 0)).toArray=V:=⟨_,rfl⟩
 obtain ⟨B,hB⟩:∃ B,tabW begS.l=B:=⟨_,rfl⟩
 rw [hV] at HP
 rw [hV,hB] at hbu
 rw [hB] at HB
 clear hV hB
 go_enter Tryz.func48,Tryz.ntmps48
 go_wp2_with fail
 with_reducible refine (HB.out _).mono ?_
 rintro e w1 ⟨rfl,hb1⟩
 have HP1:=yh (HP.out w1 hb1)
 have HBU:=yh hbu
 clear HP HB hb1 hbu
 go_wp2_with (refine zaS (o:=⟨some 2,_,_,_,_,_⟩) rfl (.agg V) (Eq.trans (b:=Sem.run Tryz.prog (do pure (Next.value (← Instr.build 133 #[(0,.bool true),(1,.agg B)]))) w1) (by kernel_rfl) (run_value (HBU.out _))) ?_)
 go_ret
 exact ⟨_,rfl,HP1.out⟩
theorem zbu {P:Program} {ρ:Operand→Value} {o:Oper} {w:World} {ty:TypeId} {x:Operand} (ho:o.op=.load ty x) {b i:Nat} (hx:ρ x=.pointer (some ⟨b,i,none⟩)) {cs:List Value} {d:TypeDesc} (hc:w.rangeAt b i cs)
  (hu:P.underlying ty=some d) (hd:d.isRow=true) (hi:(P.info? ty).map (·.size)=some cs.length) :
  (execOp ρ o).run P w=.ok (.value (.agg cs.toArray)) w:=by
 unfold execOp
 simp only [ho,hx,Instr.loadAt,Instr.sureAddr,Sem.run_bind,Sem.run_pure,Result.andThen_ok,run_loadVar_mid w b i ty cs d hc hu hd hi]
structure TakeP (W0 W:World) (g gk gm:Nat) (KK MM:Array Value) (s:St) (n:Nat) (k:List UInt8):Prop where
 ks:W.heap[gk]?=some (.cells KK 80 (0,0))
 ms:W.heap[gm]?=some (.cells MM 136 (0,0))
 ha:HA W g true s n k
 only:Only (fun j=>j=g) W0 W
theorem TakeP.call {W0 W W':World} {g gk gm:Nat} {KK MM:Array Value} {s:St} {n:Nat} {k:List UInt8} (h:TakeP W0 W g gk gm KK MM s n k) (hb:Below W.heap.size W W'):TakeP W0 W' g gk gm KK MM s n k :=
 ⟨by rw [hb.block _ (Array.getElem?_eq_some_iff.1 h.ks).1];exact h.ks,by rw [hb.block _ (Array.getElem?_eq_some_iff.1 h.ms).1];exact h.ms,h.ha.next hb,h.only.trans (Only.of_below hb)⟩
theorem TakeP.drew {W0 W:World} {g gk gm:Nat} {KK MM:Array Value} {s:St} {n:Nat} {k:List UInt8} (h:TakeP W0 W g gk gm KK MM s n k):TakeP W0 W.drew g gk gm KK MM s n k :=
 ⟨h.ks,h.ms,h.ha.drew,h.only.drew⟩
theorem htake_any {g:Nat} {h:Sh} (W:World) (A:Option Addr) (l:List UInt8) (c:Nat) (hs:HSh W g h) (hb:Bs W A l) (hc:l.length≤c) (hoff:0<l.length→∀ j,At A j→j≠g) (hn:h.n+l.length≤2305843009213693952) (hl:l.length≤100000) :
  Calls Tryz.prog 49 #[.pointer (some ⟨g,0,none⟩),.agg (tabW ksL),.slice A l.length c] W fun e w'=>e=.returned (.tuple #[])∧HSh w' g (h.add l)∧Only (fun j=>j=g) W w':=by
 have hz:=fun u=>zbi 136 16 (by kernel_rfl) u
 obtain ⟨z16,hz16⟩:∃ z,tabW (List.replicate 16 0)=z:=⟨_,rfl⟩
 have n16:z16.size=16:=by rw [← hz16,zam];simp
 rw [hz16] at hz
 have HPW:=yh (fun (s:St) (m:List W64) (hm:m.length=16)=>pwith_any ksL (by simp [ksL]) s m hm)
 obtain ⟨KK,hKK⟩:∃ z,tabW ksL=z:=⟨_,rfl⟩
 have nK:KK.size=80:=by rw [← hKK,zam];simp [ksL]
 have iK:(Tryz.prog.info? 80).map (·.size)=some KK.size:=by rw [nK];kernel_rfl
 rw [hKK] at HPW ⊢
 have HWD:Hid (∀ (W:World) (kk:List UInt8),kk.length=128→Bs W (some ⟨g,10,none⟩) kk→Calls Tryz.prog 104 #[.slice (some ⟨g,10,none⟩) 128 128] W fun e w'=>e=.returned (.tuple #[.agg (tabW (zbe kk)),.bool true])∧Below W.heap.size W w'):=yh fun W kk hk hb=>by
  have:=pwords_any (some ⟨g,10,none⟩) kk 128 W hb
  unfold wordsV at this
  rw [if_pos hk,hk] at this
  exact this
 obtain ⟨W1,hW1⟩:∃ W1,W.alloc (.cells KK 80)=W1:=⟨_,rfl⟩
 obtain ⟨gk,hgk⟩:∃ gk,W.heap.size=gk:=⟨_,rfl⟩
 have hgg:g<gk:=by rw [← hgk];exact hs.lt
 have hkr:W1.heap[gk]?=some (.cells KK 80 (0,0)):=by rw [← hW1,← hgk];exact heap_alloc_new _ _
 have ho1:Only (fun j=>j=g) W W1:=by rw [← hW1];exact (Only.refl _ _).alloc _
 have hs1:HSh W1 g h:=hs.next (by rw [← hW1];exact zae (Below.refl _ _) _)
 have hb1:Bs W1 A l:=by rw [← hW1];exact hb.below (zae (Below.refl _ _) _)
 have HKR:=yh hkr
 have HO1:=yh ho1
 have HB1:=yh hb1
 have HOFF:=yh hoff
 have HNN:=yh hn
 have HLL:=yh hl
 have HCC:=yh hc
 have HGG:=yh hgg
 have HW1:=yh hW1
 obtain ⟨LL,hLL⟩:∃ n,l.length=n:=⟨_,rfl⟩
 have HLN:=yh hLL
 rw [hLL]
 have HS1:Hid (HSh W1 g (h.add (l.take 0))):=yh (by rw [List.take_zero,Sh.add_nil hs1.1];exact hs1)
 have HSL:Hid (∀ (A:Option Addr) (W:World) (l:List UInt8) (c L:Nat),Bs W A l→L≤c→l.length=L→∀ (m:Nat),m≤L→∃ A',Bs W A' (l.drop m)∧(∀ k,At A' k→At A k)∧∀ (u:World),
  (Instr.slice 23 (.slice A L c) (some (.int .i64 (m:Int))) none none).run Tryz.prog u=.ok (.slice A' (L-m) (c-m)) u):=yh (fun A W l c L hb hc hL m hm=>by
   subst hL
   obtain ⟨A',h1,h2,h3⟩:=sl_tail A W l hb c hc m hm .i64
   exact ⟨A',h1,h2,fun u=>h3 _ rfl u⟩)
 clear hz16 hKK nK hkr ho1 hs1 hb1 hb hoff hn hl hc hgg hW1 hs hLL
 go_enter Tryz.func49,Tryz.ntmps49
 go_wp2_with fail
 rw [HW1.out]
 (try rw [hgk])
 clear HW1 hgk
 go_loopw [2] (fun v wr=>∃ j L c':Nat,j+L=LL∧L≤c'∧∃ A',v=.slice A' L c'∧Hid (Bs wr A' (l.drop j))∧Hid (∀ i,At A' i→At A i)∧Hid (HSh wr g (h.add (l.take j)))∧Hid (Only (fun j=>j=g) W1 wr)) (fun v _=>sLen v)
 case atStart=>exact ⟨0,LL,c,by omega,by have:=HCC.out;have:=HLN.out;omega,A,rfl,HB1,yh (fun i h=>h),HS1,yh (Only.refl _ _)⟩
 case round =>
  clear HS1
  obtain ⟨j,L,c',hj,hLc,A',rfl,HBL,HAT,HSS,HON⟩:=hrel
  by_cases hpos:0<L
  ·obtain ⟨hok,k,ha,ht⟩:=HSS.out
   obtain ⟨H,hH⟩:∃ H,h.add (l.take j)=H:=⟨_,rfl⟩
   have hHn:H.n=h.n+j:=by
    rw [← hH]
    show h.n+(l.take j).length=_
    rw [List.length_take]
    have:=HLN.out
    omega
   rw [hH] at hok ha ht
   have hLd:(l.drop j).length=L:=by rw [List.length_drop];have:=HLN.out;omega
   have hHn2:H.n+L≤2305843009213693952:=by have:=HNN.out;have:=HLN.out;omega
   have hL5:L≤100000:=by have:=HLL.out;have:=HLN.out;omega
   have hh:=hhold_any wr A' (l.drop j) c' ha HBL.out (by omega) (by omega)
   rw [hLd] at hh
   have hadd:∀ m,h.add (l.take (j+m))=H.add ((l.drop j).take m):=fun m=>by rw [← hH,Sh.add_add,← List.take_add]
   have hdrop:∀ m,l.drop (j+m)=(l.drop j).drop m:=fun m=>by rw [List.drop_drop]
   obtain ⟨R,hR⟩:∃ R,l.drop j=R:=⟨_,rfl⟩
   rw [hR] at hh hadd hdrop hLd HBL
   have hlt:¬ (L:Int)≤0:=by omega
   have hlt':(0:Int)<(L:Int):=by omega
   by_cases hfull:H.n % 128+L<128
   ·obtain ⟨hm,e1,e2,e3⟩:=hold_short R hok ha.len ht (by rw [hLd];exact hfull)
    rw [hLd] at hm e2 e3
    rw [hm] at hh
    obtain ⟨Ax,hx1,hx2,hx3⟩:=HSL.out A' wr R c' L HBL.out (by omega) hLd L (by omega)
    rw [Nat.sub_self] at hx3
    have hr0:¬ ((H.n+L) % 128=0):=by omega
    have HH2:=yh hh
    have HHE:Hid (∀ W:World,HA W g true H.s (H.n+L) (heldK H.n k R)→Calls Tryz.prog 103 #[.pointer (some ⟨g,0,none⟩)] W fun e w'=>e=.returned (.int .i64 (((H.n+L) % 128:Nat):Int))∧w'=W):=yh (fun W ha=>hheld_any W ha (by omega))
    have HEND:Hid (∀ w2,HA w2 g true H.s (H.n+L) (heldK H.n k R)→Only (fun j=>j=g) wr w2→Hid (Bs w2 Ax (l.drop (j+L)))∧Hid (HSh w2 g (h.add (l.take (j+L))))∧Hid (Only (fun j=>j=g) W1 w2)):=yh (fun w2 h1 h2=>by
     have hz:R.drop L=[]:=List.drop_eq_nil_of_le (by omega)
     refine ⟨yh (by rw [hdrop,hz];exact Bs.nil_ _ _),yh ?_,yh (HON.out.trans h2)⟩
     have e:h.add (l.take (j+L))=H.add R:=by rw [hadd,List.take_of_length_le (by omega)]
     rw [e]
     exact ⟨Sh.add_ok hok R,_,by rw [e1,e2];exact h1,by rw [e2];exact e3⟩)
    have HX2:Hid (∀ i,At Ax i→At A i):=yh (fun i hi=>HAT.out i (hx2 i hi))
    obtain ⟨r,hr⟩:∃ r,(H.n+L) % 128=r:=⟨_,rfl⟩
    rw [hr] at hr0 HHE
    have hri:¬ (r:Int)=0:=by omega
    have HJ:=yh hj
    clear hok ha ht hH hHn hLd hHn2 hL5 hh hadd hdrop hR hfull hm e1 e2 e3 hx1 hx2 hr0 hr HBL HAT HSS HON hj
    go_wp2_with fail
    with_reducible refine HH2.out.mono ?_
    rintro e w2 ⟨rfl,ha2,ho2⟩
    have HE2:=yh (HEND.out w2 ha2 ho2)
    have HHF:=yh (HHE.out w2 ha2)
    clear ha2 ho2 HEND HHE HH2
    go_wp2_with fail
    with_reducible refine HHF.out.mono ?_
    rintro e w3 ⟨rfl,hw3⟩
    subst hw3
    clear HHF
    go_wp2_with fail
    go_roundw
    case rel=>exact ⟨j+L,0,c'-L,by have:=HJ.out;omega,by omega,Ax,rfl,HE2.out.1,HX2,HE2.out.2.1,HE2.out.2.2⟩
    case measure=>simp [sLen];omega
   ·obtain ⟨hm,e1,e2⟩:=hold_full R hok ha.len ht (by rw [hLd];omega)
    rw [hm] at hh
    have hkl:=heldK_len (n:=H.n) (k:=k) R ha.len
    rw [← e1] at e2
    obtain ⟨m,hmm⟩:∃ m,128-H.n % 128=m:=⟨_,rfl⟩
    rw [hmm] at hh e2
    have hm1:0<m:=by omega
    have hmL:m≤L:=by omega
    obtain ⟨Ax,hx1,hx2,hx3⟩:=HSL.out A' wr R c' L HBL.out (by omega) hLd m hmL
    have hr0:(H.n+m) % 128=0:=by omega
    obtain ⟨kk,hkk⟩:∃ kk,heldK H.n k R=kk:=⟨_,rfl⟩
    rw [hkk] at hh e2 hkl
    have HH2:=yh hh
    have HHE:Hid (∀ W:World,HA W g true H.s (H.n+m) kk→Calls Tryz.prog 103 #[.pointer (some ⟨g,0,none⟩)] W fun e w'=>e=.returned (.int .i64 0)∧w'=W):=yh (fun W ha=>by
     have:=hheld_any W ha (by omega)
     rwa [hr0] at this)
    have hSLN:(zbe kk).length=16:=zbk _ _
    obtain ⟨s2,hs2⟩:∃ s2,stepW ksL H.s (zbe kk)=s2:=⟨_,rfl⟩
    have HSW:Hid (∀ W:World,Calls Tryz.prog 105 #[.agg KK,.agg (tabW H.s.l),.agg (tabW (zbe kk))] W fun e w'=>e=.returned (.agg (tabW s2.l))∧Below W.heap.size W w'):=yh (by rw [← hs2];exact fun W=>HPW.out H.s (zbe kk) hSLN W)
    have HEND:Hid (∀ w2,HA w2 g true s2 (H.n+m) kk→Only (fun j=>j=g) wr w2→Hid (Bs w2 Ax (l.drop (j+m)))∧Hid (HSh w2 g (h.add (l.take (j+m))))∧Hid (Only (fun j=>j=g) W1 w2)):=yh (fun w2 h1 h2=>by
     refine ⟨yh ?_,yh ?_,yh (HON.out.trans h2)⟩
     ·rw [hdrop]
      refine hx1.only h2 (fun i hi e=>?_)
      exact HOFF.out (by have:=HLN.out;omega) i (HAT.out i (hx2 i hi)) e
     ·rw [hadd,e2,hs2]
      exact ⟨by unfold Sh.ok;simp only [List.length_nil];omega,kk,h1,by simp only;rw [hr0];rfl⟩)
    have HX2:Hid (∀ i,At Ax i→At A i):=yh (fun i hi=>HAT.out i (hx2 i hi))
    have HWD2:Hid (∀ W:World,HA W g true H.s (H.n+m) kk→Calls Tryz.prog 104 #[.slice (some ⟨g,10,none⟩) 128 128] W fun e w'=>e=.returned (.tuple #[.agg (tabW (zbe kk)),.bool true])∧Below W.heap.size W w'):=yh (fun W ha=>HWD.out W kk hkl ha.bs)
    have HSLS:Hid (H.s.l.length=8):=yh (St.len _)
    have HTP:Hid (∀ w2 w3:World,HA w2 g true H.s (H.n+m) kk→Only (fun j=>j=g) wr w2→Below w2.heap.size w2 w3→TakeP wr ((w3.alloc (.cells z16 136)).setRow w3.heap.size (tabW (zbe kk))) g gk w3.heap.size KK (tabW (zbe kk)) H.s (H.n+m) kk∧g<w3.heap.size):=yh (fun w2 w3 h1 h2 h3=>by
     have hgk:gk<wr.heap.size:=Nat.lt_of_lt_of_le (Array.getElem?_eq_some_iff.1 HKR.out).1 HON.out.size
     have hk2:wr.heap[gk]?=some (.cells KK 80 (0,0)):=by
      rw [HON.out.block gk (Array.getElem?_eq_some_iff.1 HKR.out).1 (by have:=HGG.out;omega)];exact HKR.out
     have hk3:w3.heap[gk]?=some (.cells KK 80 (0,0)):=by
      rw [h3.block gk (Nat.lt_of_lt_of_le hgk h2.size),h2.block gk hgk (by have:=HGG.out;omega)];exact hk2
     have hg3:g<w3.heap.size:=(h1.next h3).lt
     have hk3l:gk<w3.heap.size:=(Array.getElem?_eq_some_iff.1 hk3).1
     have hb:Below w3.heap.size w3 ((w3.alloc (.cells z16 136)).setRow w3.heap.size (tabW (zbe kk))):=zay (zae (Below.refl _ _) _) (Nat.le_refl _)
     exact ⟨⟨by rw [hb.block gk hk3l];exact hk3,setRow_heap _ _ _ _ _ _ (heap_alloc_new w3 _),(h1.next h3).next hb,(h2.trans (Only.of_below h3)).trans (Only.of_below hb)⟩,hg3⟩)
    have oM:=zaU (zbe kk)
    have nM:(tabW (zbe kk)).size=16:=by rw [zam,hSLN]
    obtain ⟨MM,hMM⟩:∃ M,tabW (zbe kk)=M:=⟨_,rfl⟩
    rw [hMM] at HSW HWD2 HTP oM nM
    have iM:(Tryz.prog.info? 136).map (·.size)=some MM.size:=by rw [nM];kernel_rfl
    have sM:z16.size=MM.size:=by rw [n16,nM]
    have hsl:=fun u=>slice_block_all g u
    obtain ⟨N,hN⟩:∃ N,H.n+m=N:=⟨_,rfl⟩
    rw [hN] at HH2 HHE HEND HWD2 HTP
    obtain ⟨s1,hs1⟩:∃ s1,H.s=s1:=⟨_,rfl⟩
    rw [hs1] at HH2 HHE HSW HWD2 HTP
    have HJ:Hid (j+m+(L-m)=LL):=yh (by omega)
    have HM1:=yh hm1
    have HML:=yh hmL
    have iS:(Tryz.prog.info? 87).map (·.size)=some (s1.l.map wv).length:=by rw [List.length_map,St.len];kernel_rfl
    have eS:(s1.l.map wv).toArray=tabW s1.l:=rfl
    have nS2:(tabW s2.l).size=8:=by rw [zam,St.len]
    have iS2:(Tryz.prog.info? 87).map (·.size)=some (tabW s2.l).size:=by rw [nS2];kernel_rfl
    have oS2:=zaU s2.l
    clear hok ha ht hH hHn hLd hHn2 hL5 hh hadd hdrop hR hfull hm e1 e2 hkl hmm hx1 hx2 hr0 hkk hSLN hs2 HBL HAT HSS HON hj hMM hN hs1 nM HPW HWD HNN HLL HSLS n16
    go_wp2_with fail
    with_reducible refine HH2.out.mono ?_
    rintro e w2 ⟨rfl,ha2,ho2⟩
    have HHF:=yh (HHE.out w2 ha2)
    have HA2:=yh ha2
    have HO2:=yh ho2
    have HWD3:=yh (HWD2.out w2 ha2)
    clear ha2 ho2 HHE HH2 HWD2
    go_wp2_with fail
    with_reducible refine HHF.out.mono ?_
    rintro e w3 ⟨rfl,hw3⟩
    subst hw3
    clear HHF
    go_wp2_with fail
    with_reducible refine HWD3.out.mono ?_
    rintro e w4 ⟨rfl,hb4⟩
    have h0:(w4.alloc (.cells z16 136)).heap[w4.heap.size]?=some (.cells z16 136 (0,0)):=heap_alloc_new _ _
    have HT:=yh (HTP.out _ w4 HA2.out HO2.out hb4).1
    have HGM:=yh (HTP.out _ w4 HA2.out HO2.out hb4).2
    clear hb4 HTP HWD3 HA2 HO2
    go_wp2_with (refine yj MM h0 iM sM oM ?_)
    clear h0
    obtain ⟨W5,hW5⟩:∃ W5,(w4.alloc (.cells z16 136)).setRow w4.heap.size MM=W5:=⟨_,rfl⟩
    obtain ⟨gm,hgm⟩:∃ gm,w4.heap.size=gm:=⟨_,rfl⟩
    rw [hW5,hgm] at HT
    rw [hW5,hgm]
    rw [hgm] at HGM
    clear hW5 hgm
    have HT2:=HT.out.drew
    refine wp_region_noPanic ?_
    refine wp_region_held_drew (S:=fun W=>∃ s,TakeP wr W g gk gm KK MM s N kk) (by kernel_rfl) (by exact ⟨s1,HT2⟩) (fun hS=>?_)
    refine' yk 0  hS ?_
    refine' yk 1  hS ?_ (hy:=by intro W hSW;obtain ⟨s,hSW⟩:=hSW;exact run_load_row rfl rfl hSW.ks Tryz.underlying80 rfl iK)
    refine' yk 2  hS ?_
    refine' yk 3  hS ?_
    refine' yk 4  hS ?_
    refine' yk 6  hS ?_ (hy:=by intro W hSW;obtain ⟨s,hSW⟩:=hSW;exact run_load_row rfl rfl hSW.ms Tryz.underlying136 rfl iM)
    refine xk 5  (fun K hK=>?_)
    refine wp_load_mid 87 (.tmp 31) rfl g 1 rfl (s1.l.map wv) _ HT2.ha.cs Tryz.underlying87 rfl iS ?_
    refine hK.out _ _ (by exact ⟨s1,HT2⟩) (fun hS=>?_)
    clear hK K
    refine xk 7  (fun K hK=>?_)
    go_simp
    with_reducible refine (HSW.out _).mono ?_
    rintro e v0 ⟨rfl,hb0⟩
    have kb0:=HT2.call hb0
    clear hS hb0
    refine hK.out _ _ (by exact ⟨s1,kb0⟩) (fun hS=>?_)
    clear hK K
    refine' yk 8  hS ?_
    refine' yk 9  hS ?_
    have kS:=kb0.ha.setS s2
    have kO:=kb0.only.trans kS.2
    have kE:=HEND.out _ kS.1 kO
    have kT:TakeP wr (v0.setCells g 1 (tabW s2.l).toList) g gk gm KK MM s2 N kk:=⟨by rw [kS.2.block _ (Array.getElem?_eq_some_iff.1 kb0.ks).1 (by have:=HGG.out;omega)];exact kb0.ks,by rw [kS.2.block _ (Array.getElem?_eq_some_iff.1 kb0.ms).1 (by have:=HGM.out;omega)];exact kb0.ms,kS.1,kO⟩
    have hthere:v0.there g 1 (tabW s2.l).size:=fun j hj=>by
     rw [nS2] at hj
     refine ⟨?_,kb0.ha.fz _⟩
     rw [kb0.ha.at_,hcells_s _ _ (St.len s1) _ hj,List.getElem?_map,List.getElem?_eq_getElem (by rw [St.len];exact hj)]
     rfl
    refine xk 10  (fun K hK=>?_)
    refine wp_store_mid 87 (.tmp 36) (.tmp 34) rfl g 1 (tabW s2.l) rfl rfl hthere iS2 oS2 ?_
    refine hK.out _ _ (by exact ⟨s2,kT⟩) (fun hS=>?_)
    clear hK K
    refine wpAnyH_done (by kernel_rfl) ?_ _
    refine NoPanic.normal ?_
    clear hS hthere kT kO kS kb0 HT2
    simp only [Act.put]
    go_wp2_with fail
    go_roundw
    case rel=>exact ⟨j+m,L-m,c'-m,HJ.out,by omega,Ax,rfl,kE.1,HX2,kE.2.1,kE.2.2⟩
    case measure=>simp [sLen];have:=HM1.out;have:=HML.out;omega
  ·obtain rfl:L=0:=by omega
   have HF:Hid (HSh wr g (h.add l)):=yh (by
    have:=HSS.out
    rwa [List.take_of_length_le (by have:=HLN.out;omega)] at this)
   have HG:=yh (HO1.out.trans HON.out)
   clear HSS HON HBL HAT
   go_wp2_with fail
   (try simp only [Exit.inBlock,Exit.then])
   refine bodyPost_end (results_none rfl _ _ _) rfl ?_
   exact ⟨rfl,HF.out,HG.out⟩
theorem bs_range {W:World} {g o:Nat} {l:List UInt8} (h:Bs W (some ⟨g,o,none⟩) l):W.rangeAt g o (l.map bval):=fun j v hj=>by
 have hl:j<l.length:=by
  rcases Nat.lt_or_ge j l.length with h | h
  ·exact h
  ·rw [List.getElem?_eq_none (by simpa using h)] at hj;cases hj
 obtain ⟨b,o',e,hc⟩:=h (by omega)
 injection e with e
 injection e with e1 e2
 subst e1
 subst e2
 rw [hc j hl]
 rw [List.getElem?_map,List.getElem?_eq_getElem hl] at hj
 simp at hj
 subst hj
 simp [bval,List.getD,List.getElem?_eq_getElem hl]
theorem only_rowAt {F:Nat→Prop} {W W':World} {g:Nat} {cs:Array Value} (h:Only F W W') (hg:W.heap.size≤g):Only F W (W'.setRow g cs) :=
 ⟨h.os,h.tape,h.output,by simpa using h.size,fun j hj hn=>by rw [setRow_other _ _ _ _ (by omega)];exact h.block j hj hn⟩
theorem array_at (g c:Nat) (u:World):(Instr.arrayAt 24 (.slice (some ⟨g,0,none⟩) 64 c)).run Tryz.prog u=.ok (.pointer (some ⟨g,0,none⟩)) u:=by
 have hu:Tryz.prog.underlying 24=some (.array 64 5):=by kernel_rfl
 simp [Instr.arrayAt,run_underlying hu]
structure FinP (W:World) (gk gz:Nat) (KK z:Array Value):Prop where
 ks:W.heap[gk]?=some (.cells KK 80 (0,0))
 z:W.heap[gz]?=some (.cells z 24 (0,0))
theorem FinP.only {W W':World} {gk gz:Nat} {KK z:Array Value} {F:Nat→Prop} (h:FinP W gk gz KK z) (ho:Only F W W') (h1:¬ F gk) (h2:¬ F gz):FinP W' gk gz KK z :=
 ⟨by rw [ho.block _ (Array.getElem?_eq_some_iff.1 h.ks).1 h1];exact h.ks,by rw [ho.block _ (Array.getElem?_eq_some_iff.1 h.z).1 h2];exact h.z⟩
theorem hfin_any {g:Nat} {h:Sh} (W:World) (hs:HSh W g h) (hn:h.n≤1152921504606866976) :
  Calls Tryz.prog 50 #[.pointer (some ⟨g,0,none⟩),.agg (tabW ksL)] W fun e w'=>e=.returned (.agg (arrB h.sum))∧Only (fun j=>j=g) W w':=by
 have hz:=fun u=>zbp 24 (arrB (List.replicate 64 0)) 64 (by kernel_rfl) u
 obtain ⟨z,hze⟩:∃ z,arrB (List.replicate 64 0)=z:=⟨_,rfl⟩
 have nz:z.size=64:=by rw [← hze,zar];simp
 rw [hze] at hz
 have HPD:Hid (∀ W:World,Calls Tryz.prog 106 #[.int .u64 (h.n:Int)] W (RetOb 5 W (padB h.n))):=yh fun W=>hpad_any h.n W hn
 have hpl:(padB h.n).length≤300:=by simp [padB,zbF];omega
 obtain ⟨L,hL⟩:∃ L,(padB h.n).length=L:=⟨_,rfl⟩
 have HTK:Hid (∀ (W:World) (A:Option Addr) (c:Nat),HSh W g h→Bs W A (padB h.n)→L≤c→(∀ j,At A j→j≠g)→Calls Tryz.prog 49 #[.pointer (some ⟨g,0,none⟩),.agg (tabW ksL),.slice A L c] W fun e w'=>e=.returned (.tuple #[])∧HSh w' g (h.add (padB h.n))∧Only (fun j=>j=g) W w') :=
  yh fun W A c h1 h2 h3 h4=>by rw [← hL] at h3 ⊢;exact htake_any W A (padB h.n) c h1 h2 h3 (fun _=>h4) (by omega) (by omega)
 have hsum:h.sum=bytesS (h.add (padB h.n)).s:=rfl
 obtain ⟨s2,hs2⟩:∃ s,(h.add (padB h.n)).s=s:=⟨_,rfl⟩
 rw [hsum,hs2]
 have HS2:Hid (∀ W:World,HSh W g (h.add (padB h.n))→∃ n k,HA W g true s2 n k):=yh fun W hh=>by
  obtain ⟨_,k,ha,_⟩:=hh
  rw [hs2] at ha
  exact ⟨_,k,ha⟩
 have HBY:=yh fun W:World=>hbytes_any s2 W
 obtain ⟨B,hB⟩:∃ B,bytesS s2=B:=⟨_,rfl⟩
 have hBl:B.length=64:=by rw [← hB,bytesS_len]
 rw [hB] at HBY
 rw [hB]
 obtain ⟨pd,hpd⟩:∃ pd,padB h.n=pd:=⟨_,rfl⟩
 rw [hpd] at HPD HTK HS2 hL
 obtain ⟨n,hnn⟩:∃ n,h.n=n:=⟨_,rfl⟩
 rw [hnn] at HPD
 obtain ⟨KK,hKK⟩:∃ K,tabW ksL=K:=⟨_,rfl⟩
 have nK:KK.size=80:=by rw [← hKK,zam];simp [ksL]
 have iK:(Tryz.prog.info? 80).map (·.size)=some KK.size:=by rw [nK];kernel_rfl
 rw [hKK] at HTK ⊢
 obtain ⟨W1,hW1⟩:∃ W1,(W.alloc (.cells KK 80)).alloc (.cells z 24)=W1:=⟨_,rfl⟩
 obtain ⟨gk,hgk⟩:∃ gk,W.heap.size=gk:=⟨_,rfl⟩
 have hb1:Below W.heap.size W W1:=by rw [← hW1];exact zae (zae (Below.refl _ _) _) _
 have hlt:g<gk:=by rw [← hgk];exact hs.lt
 have hf1:FinP W1 gk (gk+1) KK z:=⟨by rw [← hW1,← hgk];exact heap_alloc2_old _ _ _,by rw [← hW1,← hgk];exact heap_alloc2_new _ _ _⟩
 have hs1:HSh W1.drew g h:=(hs.next hb1).only (Q:=fun _=>False) ((Only.refl _ _).drew) (fun h=>h)
 have ho1:Only (fun j=>j=g) W W1.drew:=(Only.of_below hb1).drew
 have HW1:=yh hW1
 have hc:W1.drew.cell? ⟨g,9,none⟩=some (.int .u64 (n:Int)):=by obtain ⟨_,k,ha,_⟩:=hs1;rw [← hnn];exact ha.cn
 have HO1:=yh ho1
 have HLT:=yh hlt
 have HBL:=yh hBl
 have HNZ:=yh nz
 have HSS:=yh hs1
 have HL:=yh hL
 have HF1:=yh hf1
 have HGK:=yh hgk
 have HPL:Hid (0<L):=yh (by rw [← hL,← hpd];simp [padB])
 clear hze hpl hsum hs2 hB hpd hnn hKK hW1 hb1 hs hn hs1 ho1 hBl nz nK hL hlt hf1
 go_enter Tryz.func50,Tryz.ntmps50
 go_upto_region 1 with fail
 (try rw [HGK.out])
 (try rw [HGK.out] at HW1)
 rw [HW1.out]
 clear HW1 hgk
 refine wp_region_noPanic ?_
 refine wp_region_held_drew (S:=fun W=>FinP W gk (gk+1) KK z) (by kernel_rfl) (by exact HF1.out.only (F:=fun _=>False) ((Only.refl _ _).drew) (fun h=>h) (fun h=>h)) (fun hS=>?_)
 refine' yk 0  hS ?_
 refine' yk 1  hS ?_ (hy:=fun W hSW=>run_load_row rfl rfl hSW.ks Tryz.underlying80 rfl iK)
 refine' yk 2  hS ?_
 refine' yk 3  hS ?_
 refine' yk 4  hS ?_
 refine xk 5  (fun K hK=>?_)
 go_simp
 refine hK.out _ _ (by exact hS) (fun hS=>?_)
 clear hK K
 refine xk 6  (fun K hK=>?_)
 go_simp
 with_reducible refine (HPD.out _).mono ?_
 rintro e v0 ⟨v,rfl,ho0,hb0⟩
 obtain ⟨A0,c0,rfl,hbs0,hc0⟩:=ho0.formL HL.out
 have kb0:=hS.only (F:=fun _=>False) (Only.of_below hb0) (fun h=>h) (fun h=>h)
 have hs0:=HSS.out.next hb0
 have hoff:∀ j,At A0 j→j≠g:=fun j hj e=>by have:=ho0.fresh j hj;have:=HSS.out.lt;omega
 have HK:=yh (HTK.out v0 A0 c0 hs0 hbs0 hc0 hoff)
 have HO0:=yh (HO1.out.trans (Only.of_below hb0))
 clear hS hb0 ho0 hbs0 hs0 hoff HTK
 refine hK.out _ _ (by exact kb0) (fun hS=>?_)
 clear hK K
 refine xk 7  (fun K hK=>?_)
 go_simp
 with_reducible refine HK.out.mono ?_
 rintro e v1 ⟨rfl,hs1,ho1⟩
 have kb1:=kb0.only ho1 (by have:=HLT.out;omega) (by have:=HLT.out;omega)
 have HO2:=yh (HO0.out.trans ho1)
 have HS3:=yh (HS2.out _ hs1)
 clear hS hs1 ho1
 refine hK.out _ _ (by exact kb1) (fun hS=>?_)
 clear hK K
 refine wpAnyH_done (by kernel_rfl) ?_ _
 refine NoPanic.normal ?_
 clear hS kb0 HK HO0 HS2 hc
 obtain ⟨n3,k3,ha3⟩:=HS3.out
 have iS:(Tryz.prog.info? 87).map (·.size)=some (s2.l.map wv).length:=by rw [List.length_map,St.len];kernel_rfl
 have hcs:=ha3.cs
 have eS:(s2.l.map wv).toArray=tabW s2.l:=rfl
 clear HS3 ha3 HPD HSS
 go_wp2_with (refine wpList_load_mid rfl 87 (.tmp 15) rfl g 1 rfl (s2.l.map wv) _ hcs Tryz.underlying87 rfl iS ?_)
 (try rw [eS])
 with_reducible refine (HBY.out _).mono ?_
 rintro e v2 ⟨w2,rfl,ho2,hb2⟩
 obtain ⟨g2,c2,rfl,hbs2,-,-⟩:=ho2.formN HBL.out (by omega)
 have hrg:=bs_range hbs2
 have hap:=fun u=>array_at g2 c2 u
 have iB:(Tryz.prog.info? 24).map (·.size)=some (B.map bval).length:=by rw [List.length_map,HBL.out];kernel_rfl
 have eB:(B.map bval).toArray=arrB B:=rfl
 have iB2:(Tryz.prog.info? 24).map (·.size)=some (arrB B).size:=by rw [zar,HBL.out];kernel_rfl
 have oB:=zax B
 have sB:z.size=(arrB B).size:=by rw [zar,HBL.out,HNZ.out]
 have kb2:=kb1.only (F:=fun _=>False) (Only.of_below hb2) (fun h=>h) (fun h=>h)
 have hz2:=kb2.z
 have HO3:=yh (only_rowAt (cs:=arrB B) (HO2.out.trans (Only.of_below hb2)) (show W.heap.size≤gk+1 by have:=HGK.out;omega))
 clear kb1 kb2 hb2 ho2 hbs2 HO2 HBY hcs eS iS
 obtain ⟨L2,hL2⟩:∃ L2,B.map bval=L2:=⟨_,rfl⟩
 rw [hL2] at eB hrg iB
 rw [← eB] at iB2 oB sB HO3
 have HE:=yh eB
 clear eB hL2
 go_wp2_with (first
  | (refine wpList_load_mid rfl 24 (.tmp 18) rfl g2 0 rfl L2 _ hrg Tryz.underlying24 rfl iB ?_)
  | (refine yj L2.toArray hz2 iB2 sB oB ?_))
 (try simp only [Exit.inBlock,Exit.then])
 refine bodyPost_ret (results_cell_row rfl _ _ (gk+1) _ L2.toArray _ _ rfl (setRow_heap v2 _ _ _ _ _ hz2) Tryz.underlying24 rfl iB2) rfl ?_
 exact ⟨by rw [HE.out],HO3.out⟩
theorem hrounds_any:Hid (∀ W:World,Calls Tryz.prog 47 #[] W fun e w'=>e=.returned (.agg (tabW ksL))∧Below W.heap.size W w'):=yh (by rw [← tabW_ks];exact fun W=>rounds_any W)
theorem rowsB_take (rows:BRow) (i:Nat) (r:Option Addr × List UInt8 × Nat) (h:rows[i]?=some r):rowsB (rows.take (i+1))=rowsB (rows.take i)++r.2.1:=by
 unfold rowsB
 rw [List.take_add_one,h,List.flatMap_append]
 simp
theorem rowsB_le (rows:BRow) (i:Nat) (r:Option Addr × List UInt8 × Nat) (h:rows[i]?=some r):(rowsB (rows.take i)).length+r.2.1.length≤(rowsB rows).length:=by
 have e:rowsB rows=rowsB (rows.take (i+1))++rowsB (rows.drop (i+1)):=by
  unfold rowsB
  rw [← List.flatMap_append,List.take_append_drop]
 rw [e,rowsB_take rows i r h]
 simp only [List.length_append]
 omega
structure OfP (W0 W:World) (gk g:Nat) (KK z:Array Value) (h:Sh):Prop where
 ks:W.heap[gk]?=some (.cells KK 80 (0,0))
 z:W.heap[W0.heap.size]?=some (.cells z 24 (0,0))
 hs:HSh W g h
 below:Below W0.heap.size W0 W
theorem OfP.only {W0 W W':World} {gk g:Nat} {KK z:Array Value} {h h':Sh} (o:OfP W0 W gk g KK z h) (hs:HSh W' g h') (ho:Only (fun j=>j=g) W W') (h1:gk≠g) (h2:W0.heap.size<g):OfP W0 W' gk g KK z h' :=
 ⟨by rw [ho.block _ (Array.getElem?_eq_some_iff.1 o.ks).1 h1];exact o.ks,by rw [ho.block _ (Array.getElem?_eq_some_iff.1 o.z).1 (by omega)];exact o.z,hs,o.below.trans (ho.below o.below.size (fun k hk e=>by omega))⟩
theorem hof_any (W0:World) (P:Option Addr) (rows:BRow) (c:Nat) (hr:RowAt W0 P rows) (hc:rows.length≤c) (hn:rows.length≤10) (hl:(rowsB rows).length≤10000) :
  Calls Tryz.prog 21 #[.slice P rows.length c] W0 fun e w'=>e=.returned (.agg (arrB (zbg (rowsB rows))))∧Below W0.heap.size W0 w':=by
 have hz:=fun u=>zbp 24 (arrB (List.replicate 64 0)) 64 (by kernel_rfl) u
 obtain ⟨z,hze⟩:∃ z,arrB (List.replicate 64 0)=z:=⟨_,rfl⟩
 have nz:z.size=64:=by rw [← hze,zar];simp
 rw [hze] at hz
 have hz80:=fun u=>zbi 80 80 (by kernel_rfl) u
 obtain ⟨z80,hz80e⟩:∃ t,tabW (List.replicate 80 0)=t:=⟨_,rfl⟩
 have n80:z80.size=80:=by rw [← hz80e,zam];simp
 rw [hz80e] at hz80
 have HROW:Hid (∀ (i:Nat) (W:World),Below W0.heap.size W0 W→i<rows.length→∃ b o A l c',P=some ⟨b,o,none⟩∧rows[i]?=some (A,l,c')∧W.cell? ⟨b,o+i,none⟩=some (.slice A l.length c')∧Bs W A l∧l.length≤c'∧(0<l.length→∀ j,At A j→j<W0.heap.size)):=yh fun i W hb hi=>by
  obtain ⟨b,o,e,hcl⟩:=hr.cell (by omega)
  have hg:rows[i]?=some rows[i]:=List.getElem?_eq_getElem hi
  obtain ⟨h1,h2⟩:=hr.row _ (List.mem_of_getElem? hg)
  refine ⟨b,o,rows[i].1,rows[i].2.1,rows[i].2.2,e,hg,?_,h1.below hb,h2,fun hp j hj=>bs_lt h1 hp hj⟩
  have hcc:=hcl i _ hg
  rw [hb.cell (World.block_lt_of_cell? _ _ hcc)]
  exact hcc
 have hd:zbg (rowsB rows)=(Sh.nil.add (rowsB rows)).sum:=(sum_digest _).symm
 rw [hd]
 have hsl:((Sh.nil.add (rowsB rows)).sum).length=64:=bytesS_len _
 have HFI:Hid (∀ (W:World) (g:Nat),HSh W g (Sh.nil.add (rowsB rows))→Calls Tryz.prog 50 #[.pointer (some ⟨g,0,none⟩),.agg (tabW ksL)] W fun e w'=>e=.returned (.agg (arrB (Sh.nil.add (rowsB rows)).sum))∧Only (fun j=>j=g) W w'):=yh fun W g hs=>hfin_any W hs (by show 0+(rowsB rows).length≤_;omega)
 obtain ⟨S,hS⟩:∃ S,arrB (Sh.nil.add (rowsB rows)).sum=S:=⟨_,rfl⟩
 have nS:S.size=64:=by rw [← hS,zar,hsl]
 have oS:S.all (·.oneCell')=true:=by rw [← hS];exact zax _
 rw [hS] at HFI ⊢
 have iS:(Tryz.prog.info? 24).map (·.size)=some S.size:=by rw [nS];kernel_rfl
 have sS:z.size=S.size:=by rw [nz,nS]
 have HRO:=hrounds_any
 have HNW:=yh fun W:World=>hnew_any W
 have HTK:Hid (∀ (W:World) (g i:Nat) (A:Option Addr) (l:List UInt8) (c':Nat),rows[i]?=some (A,l,c')→HSh W g (Sh.nil.add (rowsB (rows.take i)))→Bs W A l→l.length≤c'→(0<l.length→∀ j,At A j→j≠g) →
   Calls Tryz.prog 49 #[.pointer (some ⟨g,0,none⟩),.agg (tabW ksL),.slice A l.length c'] W fun e w'=>e=.returned (.tuple #[])∧HSh w' g (Sh.nil.add (rowsB (rows.take (i+1))))∧Only (fun j=>j=g) W w'):=yh fun W g i A l c' hi hs hb hc ho=>by
  have hle:=rowsB_le rows i _ hi
  rw [rowsB_take rows i _ hi,← Sh.add_add]
  refine htake_any W A l c' hs hb hc ho ?_ ?_
  ·show 0+(rowsB (rows.take i)).length+l.length≤_
   simp only at hle
   omega
  ·simp only at hle
   omega
 obtain ⟨KK,hKK⟩:∃ K,tabW ksL=K:=⟨_,rfl⟩
 have nK:KK.size=80:=by rw [← hKK,zam];simp [ksL]
 have oK:KK.all (·.oneCell')=true:=by rw [← hKK];exact zaU _
 have iK:(Tryz.prog.info? 80).map (·.size)=some KK.size:=by rw [nK];kernel_rfl
 have sK:z80.size=KK.size:=by rw [n80,nK]
 rw [hKK] at HFI HRO HTK
 obtain ⟨N,hN⟩:∃ N,rows.length=N:=⟨_,rfl⟩
 rw [hN] at HROW ⊢
 have HALL:Hid (rows.take N=rows):=yh (by rw [← hN];exact List.take_length)
 have hN10:N≤10:=by omega
 have HN10:=yh hN10
 have HADD0:Hid (Sh.nil.add (rowsB (rows.take 0))=Sh.nil):=yh (Sh.add_nil Sh.nil_ok)
 obtain ⟨W1,hW1⟩:∃ W1,W0.alloc (.cells z 24)=W1:=⟨_,rfl⟩
 have hb1:Below W0.heap.size W0 W1:=by rw [← hW1];exact zae (Below.refl _ _) _
 have hz1:W1.heap[W0.heap.size]?=some (.cells z 24 (0,0)):=by rw [← hW1];exact heap_alloc_new _ _
 have HB1:=yh hb1
 have HZ1:=yh hz1
 have HW1:=yh hW1
 have HC:=yh hc
 clear hr hc hn hl hze nz hz80e n80 hd hsl hS nS hKK nK hN hW1 hb1 hz1
 go_enter Tryz.func21,Tryz.ntmps21
 go_wp2_with fail
 rw [HW1.out]
 clear HW1
 with_reducible refine (HRO.out _).mono ?_
 rintro e w2 ⟨rfl,hb2⟩
 have h0:(w2.alloc (.cells z80 80)).heap[w2.heap.size]?=some (.cells z80 80 (0,0)):=heap_alloc_new _ _
 have HKR:Hid (((w2.alloc (.cells z80 80)).setRow w2.heap.size KK).heap[w2.heap.size]?=some (.cells KK 80 (0,0))):=yh (setRow_heap _ _ _ _ _ _ h0)
 have HB3:Hid (Below W1.heap.size W1 ((w2.alloc (.cells z80 80)).setRow w2.heap.size KK)):=yh (zay (zae hb2 _) hb2.size)
 have HGL:Hid (W1.heap.size≤w2.heap.size):=yh hb2.size
 obtain ⟨gk,hgk⟩:∃ gk,w2.heap.size=gk:=⟨_,rfl⟩
 rw [hgk] at h0 HKR HB3 HGL
 have HGK:=yh hgk
 clear hb2 HRO hgk
 go_wp2_with (refine wpList_store_row rfl 80 (.tmp 3) (.tmp 7) rfl gk KK (by rw [← HGK.out];rfl) rfl 80 z80 h0 iK sK oK ?_)
 (try rw [HGK.out])
 clear h0 oK sK
 obtain ⟨W3,hW3⟩:∃ W3,(w2.alloc (.cells z80 80)).setRow gk KK=W3:=⟨_,rfl⟩
 rw [hW3] at HKR HB3
 rw [hW3]
 clear hW3 HGK
 with_reducible refine (HNW.out _).mono ?_
 rintro e w4 ⟨g,rfl,hs4,hg4,hb4⟩
 have hlt0:W0.heap.size<W1.heap.size:=(Array.getElem?_eq_some_iff.1 HZ1.out).1
 have hk3:gk<W3.heap.size:=(Array.getElem?_eq_some_iff.1 HKR.out).1
 have HNE:Hid (gk≠g∧W0.heap.size<g):=yh ⟨by omega,by have:=HGL.out;omega⟩
 have HOP:Hid (OfP W0 w4 gk g KK z (Sh.nil.add (rowsB (rows.take 0)))):=yh (by
  rw [HADD0.out]
  refine ⟨by rw [hb4.block _ hk3];exact HKR.out,?_,hs4,(zaa (zaa HB1.out HB3.out) hb4)⟩
  rw [hb4.block _ (by have:=HGL.out;omega),HB3.out.block _ hlt0]
  exact HZ1.out)
 clear hs4 hg4 hb4 HNW HKR HB3 HGL hlt0 hk3 HB1 HZ1 HADD0
 go_wp2_with fail
 go_loopw [11] (fun i wr=>∃ k:Nat,k≤N∧i=.int .i64 (k:Int)∧Hid (OfP W0 wr gk g KK z (Sh.nil.add (rowsB (rows.take k))))) (fun i _=>N-(intOf i).toNat)
 case atStart=>exact ⟨0,by omega,rfl,HOP⟩
 case round =>
  clear HOP
  obtain ⟨k,hk,rfl,HOP⟩:=hrel
  have hN10:=HN10.out
  by_cases hlt:k<N
  ·obtain ⟨b,o,A,l,c',rfl,hri,hcell,hbs,hlc,hfar⟩:=HROW.out k wr HOP.out.below hlt
   have hks:=HOP.out.ks
   have HT:=yh (HTK.out wr g k A l c' hri HOP.out.hs hbs hlc (fun hp j hj e=>by have:=hfar hp j hj;have:=HNE.out.2;omega))
   have HEND:Hid (∀ w',HSh w' g (Sh.nil.add (rowsB (rows.take (k+1))))→Only (fun j=>j=g) wr w'→OfP W0 w' gk g KK z (Sh.nil.add (rowsB (rows.take (k+1))))):=yh fun w' h1 h2=>HOP.out.only h1 h2 HNE.out.1 HNE.out.2
   have p1:(k:Int)<(N:Int):=by omega
   have p2:0≤(k:Int):=by omega
   have e1:(o:Int)+(k:Int)=((o+k:Nat):Int):=by omega
   obtain ⟨L,hL⟩:∃ L,l.length=L:=⟨_,rfl⟩
   rw [hL] at hcell HT
   have HLT:=yh hlt
   clear hri hbs hlc hfar hL HOP hlt
   go_wp2_with (refine yi hks Tryz.underlying80 iK ?_)
   with_reducible refine HT.out.mono ?_
   rintro e w5 ⟨rfl,hs5,ho5⟩
   have HE:=yh (HEND.out _ hs5 ho5)
   clear hs5 ho5 HT HEND hks
   go_wp2_with fail
   go_roundw
   case rel=>exact ⟨k+1,by have:=HLT.out;omega,by go_num,HE⟩
   case measure=>simp [intOf];have:=HLT.out;omega
  ·obtain rfl:k=N:=by omega
   have HP2:Hid (OfP W0 wr gk g KK z (Sh.nil.add (rowsB rows))):=yh (by have:=HOP.out;rwa [HALL.out] at this)
   have hks:=HP2.out.ks
   have HF:=yh (HFI.out wr g HP2.out.hs)
   clear HOP
   go_wp2_with (refine yi hks Tryz.underlying80 iK ?_)
   with_reducible refine HF.out.mono ?_
   rintro e w6 ⟨rfl,ho6⟩
   have hz6:w6.heap[W0.heap.size]?=some (.cells z 24 (0,0)):=by rw [ho6.block _ (Array.getElem?_eq_some_iff.1 HP2.out.z).1 (by have:=HNE.out.2;omega)];exact HP2.out.z
   have HE:Hid (Below W0.heap.size W0 (w6.setRow W0.heap.size S)):=yh (zay (HP2.out.below.trans (ho6.below HP2.out.below.size (fun k hk e=>by have:=HNE.out.2;omega))) (Nat.le_refl _))
   clear ho6 HP2 HF hks
   go_wp2_with (refine yj S hz6 iS sS oS ?_)
   (try simp only [Exit.inBlock,Exit.then])
   refine bodyPost_ret (results_cell_row rfl _ _ W0.heap.size _ S _ _ rfl (setRow_heap w6 _ _ _ _ _ hz6) Tryz.underlying24 rfl iS) rfl ?_
   exact ⟨rfl,HE.out⟩
end Go.Proofs.YtkgodlcnoenmbaaGreat
