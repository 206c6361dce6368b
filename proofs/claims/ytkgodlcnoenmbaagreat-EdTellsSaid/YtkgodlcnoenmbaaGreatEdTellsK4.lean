/-
  A part of what the proof of EdTells rests on: plain lemmas and contracts of the functions that it calls. No conditions but what each theorem states.
-/
import Derived.Test.YtkgodlcnoenmbaaGreatEdTellsK3
import Derived.Laws.CopyOwn
import Derived.Deep.MidRow
namespace Go.Proofs.YtkgodlcnoenmbaaGreat
open Go.RowKit
set_option linter.unusedVariables false
set_option maxRecDepth 100000
set_option maxHeartbeats 6400000
theorem below_nx {w w1 w2:World} (h:Below w.heap.size w w1) (h2:Below w1.heap.size w1 w2):Below w.heap.size w w2:=h.trans (h2.mono h.size)
theorem below_al {w w1:World} (h:Below w.heap.size w w1) (o:Obj):Below w.heap.size w (w1.alloc o):=h.alloc h.size o
theorem bs_arr {W:World} {g:Nat} {t:TypeId} {l:List UInt8} (h:W.heap[g]?=some (.cells (arrB l) t (0,0))):Bs W (some ⟨g,0,none⟩) l:=fun _=>⟨g,0,rfl,fun j hj=>by rw [Nat.zero_add,cell_of_row _ _ _ _ _ _ h,zaG _ _ hj]⟩
theorem i64_lo16 (n:Int):bits .and .i64 n 65535=n % 65536:=by
 have h:(BitVec.ofInt 64 65535).toNat=2^16-1:=by decide
 have key:(BitVec.ofInt 64 n &&& BitVec.ofInt 64 65535).toNat=(n % ((2^64:Nat):Int)).toNat % 2^16:=by
  rw [BitVec.toNat_and,h,Nat.and_two_pow_sub_one_eq_mod,BitVec.toNat_ofInt]
 show IntKind.i64.wrap ((BitVec.ofInt 64 n &&& BitVec.ofInt 64 65535).toNat:Nat)=n % 65536
 rw [key,IntKind.wrap_i64]
 omega
theorem i64_lo8 (n:Int):bits .and .i64 n 255=n % 256:=by
 have h:(BitVec.ofInt 64 255).toNat=2^8-1:=by decide
 have key:(BitVec.ofInt 64 n &&& BitVec.ofInt 64 255).toNat=(n % ((2^64:Nat):Int)).toNat % 2^8:=by
  rw [BitVec.toNat_and,h,Nat.and_two_pow_sub_one_eq_mod,BitVec.toNat_ofInt]
 show IntKind.i64.wrap ((BitVec.ofInt 64 n &&& BitVec.ofInt 64 255).toNat:Nat)=n % 256
 rw [key,IntKind.wrap_i64]
 omega
theorem i64_lo1 (n:Int):bits .and .i64 n 1=n % 2:=by
 have h:(BitVec.ofInt 64 1).toNat=2^1-1:=by decide
 have key:(BitVec.ofInt 64 n &&& BitVec.ofInt 64 1).toNat=(n % ((2^64:Nat):Int)).toNat % 2^1:=by
  rw [BitVec.toNat_and,h,Nat.and_two_pow_sub_one_eq_mod,BitVec.toNat_ofInt]
 show IntKind.i64.wrap ((BitVec.ofInt 64 n &&& BitVec.ofInt 64 1).toNat:Nat)=n % 2
 rw [key,IntKind.wrap_i64]
 omega
theorem info17 {l:List Int} (h:l.length=17):(Tryz.prog.info? 146).map (·.size)=some (tabI l).size:=by rw [zaF,h];kernel_rfl
def zer17:Array Value:=tabI (List.replicate 17 0)
theorem zer17_zero (u:World):(zeroValue 146).run Tryz.prog u=.ok (.agg zer17) u:=zero_row 146 zer17 17 (by kernel_rfl) u
theorem zer17_dg:zer17=tabI (dgN 17 ((0:Nat):Int)):=rfl
structure MoI (w wr:World) (g gd gl gr:Nat) (D X:List Int) (z:Array Value):Prop where
 res:wr.heap[g]?=some (.cells z 22 (0,0))
 dd:wr.heap[gd]?=some (.cells (tabI D) 2 (0,0))
 ll:wr.heap[gl]?=some (.cells (tabI (dgN 34 (LL:Int))) 2 (0,0))
 rr:wr.heap[gr]?=some (.cells (tabI X) 146 (0,0))
 o1:gd<g
 o2:g<gl
 o3:gl<gr
 below:Below g w wr
section
variable {w wr:World} {g gd gl gr:Nat} {D X Y:List Int} {z:Array Value}
theorem MoI.drew (h:MoI w wr g gd gl gr D X z):MoI w wr.drew g gd gl gr D X z:=⟨h.res,h.dd,h.ll,h.rr,h.o1,h.o2,h.o3,h.below.drew⟩
theorem MoI.row (h:MoI w wr g gd gl gr D X z) (Y:List Int):MoI w (wr.setRow gr (tabI Y)) g gd gl gr D Y z:=by
 have h1:=h.o1;have h2:=h.o2;have h3:=h.o3
 exact ⟨by rw [setRow_other _ _ _ _ (by omega)];exact h.res,by rw [setRow_other _ _ _ _ (by omega)];exact h.dd,by rw [setRow_other _ _ _ _ (by omega)];exact h.ll,setRow_heap _ _ _ _ _ _ h.rr,h1,h2,h3,zab h.below (by omega)⟩
theorem MoI.cell (h:MoI w wr g gd gl gr D X z) (k:Nat) (v:Int):MoI w (wr.setCell ⟨gr,k,none⟩ (.int .i64 v)) g gd gl gr D (X.set k v) z:=by
 rw [setCell_eq_setRow wr gr k _ _ _ (.int .i64 v) h.rr,zaV]
 exact h.row _
theorem MoI.off (h:MoI w wr g gd gl gr D X z) (gs:Nat) (hg:gr<gs) (cs:Array Value):MoI w (wr.setRow gs cs) g gd gl gr D X z:=by
 have h1:=h.o1;have h2:=h.o2;have h3:=h.o3
 exact ⟨by rw [setRow_other _ _ _ _ (by omega)];exact h.res,by rw [setRow_other _ _ _ _ (by omega)];exact h.dd,by rw [setRow_other _ _ _ _ (by omega)];exact h.ll,by rw [setRow_other _ _ _ _ (by omega)];exact h.rr,h1,h2,h3,zab h.below (by omega)⟩
theorem MoI.lt (h:MoI w wr g gd gl gr D X z):gr<wr.heap.size:=(Array.getElem?_eq_some_iff.1 h.rr).1
theorem MoI.alloc (h:MoI w wr g gd gl gr D X z) (o:Obj):MoI w (wr.alloc o) g gd gl gr D X z:=by
 have h1:=h.o1;have h2:=h.o2;have h3:=h.o3;have h4:=h.lt
 exact ⟨by rw [heap_alloc_old _ _ (by omega)];exact h.res,by rw [heap_alloc_old _ _ (by omega)];exact h.dd,by rw [heap_alloc_old _ _ (by omega)];exact h.ll,by rw [heap_alloc_old _ _ h4];exact h.rr,h1,h2,h3,h.below.alloc (by omega) _⟩
end
structure MoS (w wr:World) (g gd gl gr gs:Nat) (D X Y:List Int) (z:Array Value):Prop where
 base:MoI w wr g gd gl gr D X z
 ss:wr.heap[gs]?=some (.cells (tabI Y) 146 (0,0))
 o4:gr<gs
section
variable {w wr:World} {g gd gl gr gs:Nat} {D X Y:List Int} {z:Array Value}
theorem MoS.drew (h:MoS w wr g gd gl gr gs D X Y z):MoS w wr.drew g gd gl gr gs D X Y z:=⟨h.base.drew,h.ss,h.o4⟩
theorem MoS.cell (h:MoS w wr g gd gl gr gs D X Y z) (k:Nat) (v:Int):MoS w (wr.setCell ⟨gs,k,none⟩ (.int .i64 v)) g gd gl gr gs D X (Y.set k v) z:=by
 rw [setCell_eq_setRow wr gs k _ _ _ (.int .i64 v) h.ss,zaV]
 exact ⟨h.base.off gs h.o4 _,setRow_heap _ _ _ _ _ _ h.ss,h.o4⟩
end
structure MoO (w wr:World) (g gr go:Nat) (X:List Int) (z:Array Value) (B:List UInt8):Prop where
 res:wr.heap[g]?=some (.cells z 22 (0,0))
 rr:wr.heap[gr]?=some (.cells (tabI X) 146 (0,0))
 out:wr.heap[go]?=some (.cells (arrB B) 22 (0,0))
 o1:g<gr
 o2:gr<go
 below:Below g w wr
theorem MoO.set {w wr:World} {g gr go:Nat} {X:List Int} {z:Array Value} {B:List UInt8} (h:MoO w wr g gr go X z B) (k:Nat) (x:UInt8):MoO w (wr.setCell ⟨go,k,none⟩ (.int .u8 (x.toNat:Int))) g gr go X z (B.set k x):=by
 have h1:=h.o1;have h2:=h.o2
 rw [setCell_eq_setRow wr go k _ _ _ (.int .u8 (x.toNat:Int)) h.out,za2]
 exact ⟨by rw [setRow_other _ _ _ _ (by omega)];exact h.res,by rw [setRow_other _ _ _ _ (by omega)];exact h.rr,setRow_heap _ _ _ _ _ _ h.out,h1,h2,zab h.below (by omega)⟩
theorem rmodulo_any (gd V:Nat) (hV:V<65536^34) (w:World) (hd:w.heap[gd]?=some (.cells (tabI (dgN 34 (V:Int))) 2 (0,0))) :
  Calls Tryz.prog 57 #[.slice (some ⟨gd,0,none⟩) 34 34] w fun e w'=>e=.returned (.agg (arrB (leB 32 (V % LL))))∧Below w.heap.size w w':=by
 have hz:=fun u=>zer32_zero u
 have hz17:=fun u=>zer17_zero u
 have HOR:Hid (∀ W:World,Calls Tryz.prog 111 #[] W fun e w'=>e=.returned (.agg ordA)∧Below W.heap.size W w'):=yh rorder_any
 have HDI:Hid (∀ (A:Option Addr) (W:World),Bs W A (leB 32 LL)→Calls Tryz.prog 58 #[.slice A 32 32] W (RetD W (leB 32 LL))):=yh fun A W hb=>by
  have h:=rdigits_any A (leB 32 LL) 32 W hb (by rw [zam];omega)
  rwa [zam] at h
 have io:=ordA_info
 have oo:=ordA_one
 have so:zer32.size=ordA.size:=by rw [zer32_size,ordA_size]
 have HO:Hid (ordA=arrB (leB 32 LL)):=yh rfl
 have hgd:gd<w.heap.size:=(Array.getElem?_eq_some_iff.1 hd).1
 have HZ32:Hid (zer32=arrB (List.replicate 32 0)):=yh rfl
 have HZS:=yh zer32_size
 obtain ⟨z32,hz32⟩:∃ z,zer32=z:=⟨_,rfl⟩
 rw [hz32] at so HZ32 HZS
 simp only [hz32] at hz
 have HZE:=yh hz32
 have HD0:=yh hd
 have HGD:=yh hgd
 have HV:=yh hV
 clear hz32 hd hgd hV
 go_enter Tryz.func57,Tryz.ntmps57
 go_wp2_with fail
 obtain ⟨W1,hW1⟩:∃ X,w.alloc (.cells z32 22)=X:=⟨_,rfl⟩
 have hr1:W1.heap[w.heap.size]?=some (.cells z32 22 (0,0)):=by rw [← hW1];exact heap_alloc_new _ _
 have hb1:Below w.heap.size w W1:=by rw [← hW1];exact below_al (Below.refl _ _) _
 rw [hW1]
 clear hW1
 with_reducible refine (HOR.out _).mono ?_
 rintro e v1 ⟨rfl,hbv1⟩
 have hr2:v1.heap[w.heap.size]?=some (.cells z32 22 (0,0)):=by rw [hbv1.block _ (Array.getElem?_eq_some_iff.1 hr1).1];exact hr1
 have HR2:=yh hr2
 have HB2:=yh (below_nx hb1 hbv1)
 have h3:(v1.alloc (.cells z32 22)).heap[v1.heap.size]?=some (.cells z32 22 (0,0)):=heap_alloc_new _ _
 clear hr1 hb1 hbv1 hr2
 go_upto_region 2 with (refine yj ordA h3 io so oo ?_)
 obtain ⟨W3,hW3⟩:∃ X,(v1.alloc (.cells z32 22)).setRow v1.heap.size ordA=X:=⟨_,rfl⟩
 have hr3:W3.heap[v1.heap.size]?=some (.cells ordA 22 (0,0)):=by rw [← hW3];exact setRow_heap _ _ _ _ _ _ h3
 have hbv3:Below v1.heap.size v1 W3:=by rw [← hW3];exact zab ((Below.refl _ _).alloc (Nat.le_refl _) _) (Nat.le_refl _)
 obtain ⟨go,hgo⟩:∃ X,v1.heap.size=X:=⟨_,rfl⟩
 have HR3:Hid (W3.heap[w.heap.size]?=some (.cells z32 22 (0,0))):=yh (by rw [hbv3.block _ (Array.getElem?_eq_some_iff.1 HR2.out).1];exact HR2.out)
 have HB3:=yh (below_nx HB2.out hbv3)
 rw [hgo] at hr3
 rw [HO.out] at hr3
 have HBS:Hid (Bs W3 (some ⟨go,0,none⟩) (leB 32 LL)):=yh (bs_arr hr3)
 rw [hW3,hgo]
 clear hr3 hbv3 h3 hW3 hgo HR2 HB2 HOR
 go_wp2_with fail
 with_reducible refine (HDI.out _ _ HBS.out).mono ?_
 rintro e v4 ⟨gl,rfl,hl4,hgl,hb4⟩
 have HL4:Hid (v4.heap[gl]?=some (.cells (tabI (dgN 34 (LL:Int))) 2 (0,0))):=yh (by rw [zbr 32 LL (by decide)] at hl4;exact hl4)
 have HR4:Hid (v4.heap[w.heap.size]?=some (.cells z32 22 (0,0))):=yh (by rw [hb4.block _ (Array.getElem?_eq_some_iff.1 HR3.out).1];exact HR3.out)
 have HB4:=yh (below_nx HB3.out hb4)
 have HGL:Hid (w.heap.size<gl∧gl<v4.heap.size):=yh ⟨by have:=(Array.getElem?_eq_some_iff.1 HR3.out).1;omega,(Array.getElem?_eq_some_iff.1 HL4.out).1⟩
 clear hl4 hgl hb4 HR3 HB3 HBS HDI
 have h5:(v4.alloc (.cells zer17 146)).heap[v4.heap.size]?=some (.cells zer17 146 (0,0)):=heap_alloc_new _ _
 have i17:(Tryz.prog.info? 146).map (·.size)=some zer17.size:=info17 rfl
 have o17:zer17.all (·.oneCell')=true:=zbb _
 have HI:Hid (MoI w ((v4.alloc (.cells zer17 146)).setRow v4.heap.size zer17) w.heap.size gd gl v4.heap.size (dgN 34 (V:Int)) (dgN 17 (modR V 544:Int)) z32):=yh (by
  rw [modR_top V HV.out]
  have hd4:v4.heap[gd]?=some (.cells (tabI (dgN 34 (V:Int))) 2 (0,0)):=by rw [HB4.out.block _ HGD.out];exact HD0.out
  have a:=HGL.out
  have b:=HGD.out
  have c:=HB4.out.size
  refine ⟨?_,?_,?_,by rw [← zer17_dg];exact setRow_heap _ _ _ _ _ _ h5,b,a.1,a.2,zab (below_al HB4.out _) c⟩
  ·rw [setRow_other _ _ _ _ (by omega),heap_alloc_old _ _ (by omega)];exact HR4.out
  ·rw [setRow_other _ _ _ _ (by omega),heap_alloc_old _ _ (by omega)];exact hd4
  ·rw [setRow_other _ _ _ _ (by omega),heap_alloc_old _ _ (by omega)];exact HL4.out)
 go_wp2_with (first
  | (refine zaj (o:=⟨some 17,_,_,_,_,_⟩) rfl (.agg zer17) (by kernel_rfl) ?_)
  | (refine yj zer17 h5 i17 rfl o17 ?_))
 obtain ⟨W5,hW5⟩:∃ X,(v4.alloc (.cells zer17 146)).setRow v4.heap.size zer17=X:=⟨_,rfl⟩
 obtain ⟨gr,hgr⟩:∃ X,v4.heap.size=X:=⟨_,rfl⟩
 obtain ⟨g,hg⟩:∃ X,w.heap.size=X:=⟨_,rfl⟩
 rw [hW5,hgr,hg] at HI
 rw [hW5,hgr,hg]
 have HG:=yh hg
 clear hW5 hgr hg h5 HR4 HB4 HL4 HGL HD0 HGD HO io oo so
 obtain ⟨D,hD⟩:∃ D,dgN 34 (V:Int)=D:=⟨_,rfl⟩
 have HD:=yh hD
 rw [hD] at HI
 clear hD
 go_loopw [6] (fun i wr=>∃ k:Nat,k≤544∧i=.int .i64 ((k:Int)-1)∧Hid (MoI w wr g gd gl gr D (dgN 17 (modR V k:Int)) z32)) (fun i _=>(intOf i+1).toNat)
 case atStart=>exact ⟨544,by omega,rfl,HI⟩
 case round =>
  clear HI
  obtain ⟨k,hk,rfl,HI⟩:=hrel
  cases k with
  | succ j =>
   obtain ⟨v,hv⟩:∃ v:Int,((j+1:Nat):Int)-1=v:=⟨_,rfl⟩
   rw [hv]
   obtain rfl:v=(j:Int):=by omega
   clear hv
   obtain ⟨R,hR⟩:∃ R,modR V (j+1)=R:=⟨_,rfl⟩
   obtain ⟨c0,hc0⟩:∃ c,V/2^j % 2=c:=⟨_,rfl⟩
   have hnext:=modR_next hR.symm hc0.symm
   have hRl:R<LL:=by rw [← hR];exact modR_lt _ _
   have hcl:c0<2:=by rw [← hc0];exact Nat.mod_lt _ (by decide)
   rw [hR] at HI
   obtain ⟨q,hq⟩:∃ q,j/16=q:=⟨_,rfl⟩
   obtain ⟨r,hr⟩:∃ r,j % 16=r:=⟨_,rfl⟩
   have hq34:q<34:=by omega
   have hr16:r<16:=by omega
   obtain ⟨dv,hdv⟩:∃ d,V/65536^q % 65536=d:=⟨_,rfl⟩
   have cd:wr.cell? ⟨gd,q,none⟩=some (.int .i64 (dv:Int)):=by rw [cell_of_row _ _ _ _ _ _ HI.out.dd,zau _ _ (by rw [← HD.out,zaw];exact hq34),← HD.out,gI_dgN 34 q V hq34,hdv]
   obtain ⟨y,hy⟩:∃ y,dv/2^r=y:=⟨_,rfl⟩
   have f1:(dv:Int)/2^r=(y:Int):=by rw [← hy,Int.natCast_ediv];simp
   have f2:bits .and .i64 (y:Int) 1=(c0:Int):=by
    rw [i64_lo1]
    have h:=bit_at V j
    rw [hq,hr,hdv,hy,hc0] at h
    omega
   have f3:(j:Int).tdiv 16=(q:Int):=by rw [Int.tdiv_eq_ediv_of_nonneg (by omega)];omega
   have f3':(j:Int)/16=(q:Int):=by omega
   have f4:(j:Int).tmod 16=(r:Int):=by rw [Int.tmod_eq_emod_of_nonneg (by omega)];omega
   have f4':(j:Int) % 16=(r:Int):=by omega
   have f5:IntKind.u64.wrap (r:Int)=(r:Int):=by rw [IntKind.wrap_u64];omega
   have b1:0≤(q:Int):=by omega
   have b2:(q:Int)<34:=by omega
   have b3:0≤(r:Int):=by omega
   have b4:decide (0≤(j:Int))=true:=decide_eq_true (by omega)
   have b5:0≤(j:Int):=by omega
   have HN:=yh hnext
   have HRL:=yh hRl
   have HCL:=yh hcl
   have HQ:Hid (j<544):=yh (by omega)
   clear hnext hRl hcl hR hc0 hq hr hdv hy hk
   go_wp2_with fail
   clear cd f1 f2 f3 f3' f4 f4' f5 b1 b2 b3
   have HI0:Hid (MoI w wr g gd gl gr D (opG 17 (fun t=>gI (dgN 17 ((2*R+c0:Nat):Int)) t) (dgN 17 (R:Int)) 0) z32):=yh (by rw [opG_zero _ (zaw _ _)];exact HI.out)
   clear HI
   go_loopw [7,8] (fun c i wr=>∃ a:Nat,a≤17∧i=.int .i64 (a:Int)∧c=.int .i64 (dblC R c0 a:Int)∧Hid (MoI w wr g gd gl gr D (opG 17 (fun t=>gI (dgN 17 ((2*R+c0:Nat):Int)) t) (dgN 17 (R:Int)) a) z32)) (fun _ i _=>17-(intOf i).toNat)
   case atStart=>exact ⟨0,by omega,rfl,by rw [dblC_zero],HI0⟩
   case round =>
    clear HI0
    obtain ⟨a,ha,rfl,rfl,HI0⟩:=hrel
    by_cases hlt:a<17
    ·obtain ⟨dg,hdg⟩:∃ d,R/65536^a % 65536=d:=⟨_,rfl⟩
     obtain ⟨cc,hcc⟩:∃ c,dblC R c0 a=c:=⟨_,rfl⟩
     have hccl:cc<2:=by rw [← hcc];exact dblC_le R c0 a HCL.out
     have hdgl:dg<65536:=by rw [← hdg];exact Nat.mod_lt _ (by decide)
     have st:=dbl_step R c0 a
     rw [hcc,hdg] at st
     rw [hcc]
     obtain ⟨lo,hlo⟩:∃ x,(2*R+c0)/65536^a % 65536=x:=⟨_,rfl⟩
     obtain ⟨hi,hhi⟩:∃ x,dblC R c0 (a+1)=x:=⟨_,rfl⟩
     rw [hlo,hhi] at st
     have cr:wr.cell? ⟨gr,a,none⟩=some (.int .i64 (dg:Int)):=by rw [cell_of_row _ _ _ _ _ _ HI0.out.rr,zau _ _ (by rw [opG_len];exact hlt),opG_get _ _ _ _ hlt,if_neg (by omega),gI_dgN 17 a R hlt,hdg]
     have fx:wr.frozen? ⟨gr,a,none⟩=false:=by have:=HI0.out.rr;simp [World.frozen?,this]
     have HI2:Hid (MoI w (wr.setCell ⟨gr,a,none⟩ (.int .i64 (lo:Int))) g gd gl gr D (opG 17 (fun t=>gI (dgN 17 ((2*R+c0:Nat):Int)) t) (dgN 17 (R:Int)) (a+1)) z32):=yh (by
      have h:=HI0.out.cell a (lo:Int)
      rw [show (lo:Int)=gI (dgN 17 ((2*R+c0:Nat):Int)) a by rw [gI_dgN 17 a _ hlt,hlo],opG_set (fun t=>gI (dgN 17 ((2*R+c0:Nat):Int)) t) _ hlt] at h
      rwa [gI_dgN 17 a _ hlt,hlo] at h)
     have e1:(2:Int)*(dg:Int)=((2*dg:Nat):Int):=by omega
     have e2:(cc:Int)+((2*dg:Nat):Int)=((cc+2*dg:Nat):Int):=by omega
     have e3:bits .and .i64 ((cc+2*dg:Nat):Int) 65535=(lo:Int):=by rw [i64_lo16];omega
     have e4:((cc+2*dg:Nat):Int)/65536=(hi:Int):=by omega
     have e5:cc+2*dg<200000:=by omega
     have e6:2*dg<200000:=by omega
     have e7:decide ((a:Int)<17)=true:=decide_eq_true (by omega)
     have b6:0≤(a:Int):=by omega
     have b7:(a:Int)<17:=by omega
     generalize cc+2*dg=s at *
     generalize 2*dg=d2 at *
     clear HI0 hdg hcc hccl hdgl st hlo ha
     have HHI:=yh hhi
     clear hhi
     go_wp2_with fail
     go_roundw
     case rel=>exact ⟨a+1,by omega,by go_num,by rw [HHI.out],HI2⟩
     case measure=>simp [intOf];omega
    ·have e7:decide ((a:Int)<17)=false:=decide_eq_false (by omega)
     have ha17:a=17:=by omega
     rw [ha17,opG_end (b:=dgN 17 ((2*R+c0:Nat):Int)) _ _ (zaw _ _) (fun _ _=>rfl)] at HI0
     have hR2:2*R+c0<2*LL:=by have:=HRL.out;have:=HCL.out;omega
     have HN2:=HN.out
     obtain ⟨R2,hR2e⟩:∃ x,2*R+c0=x:=⟨_,rfl⟩
     rw [hR2e] at HI0 hR2 HN2
     have HN3:=yh HN2
     have HR2L:=yh hR2
     have hrr:=HI0.out.rr
     have iX:(Tryz.prog.info? 146).map (·.size)=some (tabI (dgN 17 (R2:Int))).size:=info17 (zaw _ _)
     have oX:=zbb (dgN 17 (R2:Int))
     have sX:zer17.size=(tabI (dgN 17 (R2:Int))).size:=by unfold zer17;rw [zaF,zaF,zaw];simp
     have h6:(wr.alloc (.cells zer17 146)).heap[wr.heap.size]?=some (.cells zer17 146 (0,0)):=heap_alloc_new _ _
     have HS0:Hid (MoS w ((wr.alloc (.cells zer17 146)).setRow wr.heap.size (tabI (dgN 17 (R2:Int)))) g gd gl gr wr.heap.size D (dgN 17 (R2:Int)) (opG 17 (fun t=>gI (dgN 17 (R2:Int)) t-gI (dgN 34 (LL:Int)) t) (dgN 17 (R2:Int)) 0) z32):=yh (by
      rw [opG_zero _ (zaw _ _)]
      exact ⟨(HI0.out.alloc _).off _ HI0.out.lt _,setRow_heap _ _ _ _ _ _ h6,HI0.out.lt⟩)
     obtain ⟨TX,hTX⟩:∃ X,tabI (dgN 17 (R2:Int))=X:=⟨_,rfl⟩
     rw [hTX] at hrr iX oX sX HS0
     clear HI0 ha17 hlt ha hR2 hR2e HN2 hTX HRL HCL HN
     go_wp2_with (first
      | (refine yi hrr Tryz.underlying146 iX ?_)
      | (refine yj TX h6 iX sX oX ?_))
     obtain ⟨W6,hW6⟩:∃ X,(wr.alloc (.cells zer17 146)).setRow wr.heap.size TX=X:=⟨_,rfl⟩
     obtain ⟨gs,hgs⟩:∃ X,wr.heap.size=X:=⟨_,rfl⟩
     rw [hgs] at hW6
     rw [hgs,hW6] at HS0
     rw [hgs,hW6]
     clear hW6 hgs h6 hrr iX oX sX e7
     go_loopw [10] (fun i wr=>∃ a:Nat,a≤17∧i=.int .i64 (a:Int)∧Hid (MoS w wr g gd gl gr gs D (dgN 17 (R2:Int)) (opG 17 (fun t=>gI (dgN 17 (R2:Int)) t-gI (dgN 34 (LL:Int)) t) (dgN 17 (R2:Int)) a) z32)) (fun i _=>17-(intOf i).toNat)
     case atStart=>exact ⟨0,by omega,rfl,HS0⟩
     case round =>
      clear HS0
      obtain ⟨a,ha,rfl,HS0⟩:=hrel
      by_cases hlt:a<17
      ·obtain ⟨x,hx⟩:∃ x,gI (dgN 17 (R2:Int)) a=x:=⟨_,rfl⟩
       obtain ⟨y,hy⟩:∃ y,gI (dgN 34 (LL:Int)) a=y:=⟨_,rfl⟩
       have hxb:=dgN_get 17 (R2:Int) a hlt
       have hyb:=dgN_get 34 (LL:Int) a (by omega)
       rw [hx] at hxb
       rw [hy] at hyb
       have cs:wr.cell? ⟨gs,a,none⟩=some (.int .i64 x):=by rw [cell_of_row _ _ _ _ _ _ HS0.out.ss,zau _ _ (by rw [opG_len];exact hlt),opG_get _ _ _ _ hlt,if_neg (by omega),hx]
       have cl:wr.cell? ⟨gl,a,none⟩=some (.int .i64 y):=by rw [cell_of_row _ _ _ _ _ _ HS0.out.base.ll,zau _ _ (by rw [zaw];omega),hy]
       have fx:wr.frozen? ⟨gs,a,none⟩=false:=by have:=HS0.out.ss;simp [World.frozen?,this]
       have HS2:Hid (MoS w (wr.drew.setCell ⟨gs,a,none⟩ (.int .i64 (x-y))) g gd gl gr gs D (dgN 17 (R2:Int)) (opG 17 (fun t=>gI (dgN 17 (R2:Int)) t-gI (dgN 34 (LL:Int)) t) (dgN 17 (R2:Int)) (a+1)) z32):=yh (by
        have h:=HS0.out.drew.cell a (x-y)
        rw [← hx,← hy,opG_set (fun t=>gI (dgN 17 (R2:Int)) t-gI (dgN 34 (LL:Int)) t) _ hlt] at h
        rwa [hx,hy] at h)
       have e7:decide ((a:Int)<17)=true:=decide_eq_true (by omega)
       have b6:0≤(a:Int):=by omega
       have b7:(a:Int)<17:=by omega
       have b8:(a:Int)<34:=by omega
       have e8:IntKind.i64.wrap (x-y)=x-y:=by rw [IntKind.wrap_i64];omega
       clear HS0 hx hy ha
       go_wp2_with fail
       refine wp_region_still_tail 9 (by kernel_rfl) (by kernel_rfl) ?_
       simp only [List.take_succ_cons,List.take_zero,List.drop_succ_cons,List.drop_zero]
       iterate 9 still_step
       refine wpStill_nil ?_
       go_wp2_with fail
       go_roundw
       case rel=>exact ⟨a+1,by omega,by go_num,HS2⟩
       case measure=>simp [intOf];omega
      ·have e7:decide ((a:Int)<17)=false:=decide_eq_false (by omega)
       have ha17:a=17:=by omega
       rw [ha17,opG_end (b:=subG R2) _ _ (subG_len _) (fun t ht=>(subG_get R2 t ht).symm)] at HS0
       clear ha17 hlt ha
       have HS0:Hid (MoS w wr g gd gl gr gs D (dgN 17 (R2:Int)) (zap (subG R2) 0) z32):=HS0
       go_wp2_with fail
       clear e7
       go_loopw [11] (fun i wr=>∃ a:Nat,a≤16∧i=.int .i64 (a:Int)∧Hid (MoS w wr g gd gl gr gs D (dgN 17 (R2:Int)) (zap (subG R2) a) z32)) (fun i _=>16-(intOf i).toNat)
       case atStart=>exact ⟨0,by omega,rfl,HS0⟩
       case round =>
        clear HS0
        obtain ⟨k,hk,rfl,HI⟩:=hrel
        by_cases hlt:k<16
        ·have hml:(zap (subG R2) k).length=17:=by rw [zaL,subG_len]
         have hst:=zbD (l:=subG R2) (B:=65536) (by omega) (subG_bd R2) k (by rw [subG_len];omega)
         obtain ⟨m,hm⟩:∃ m,zap (subG R2) k=m:=⟨_,rfl⟩
         obtain ⟨m2,hm2⟩:∃ m2,m.set (k+1) (gI m (k+1)+gI m k/65536)=m2:=⟨_,rfl⟩
         have hnx:zap (subG R2) (k+1)=m2.set k (gI m k % 65536):=by rw [zap,hm,← hm2];rfl
         have hg2:gI m2 k=gI m k:=by rw [← hm2,gI_set _ _ _ _ (by rw [← hm,hml];omega),if_neg (by omega)]
         have hxb:=hst.at_
         have hyb:-65536≤gI m (k+1)∧gI m (k+1)≤65536:=by
          have h1:=hst.high (k+1) (by omega)
          rw [hm] at h1
          rw [h1]
          exact subG_bd R2 (k+1)
         rw [hm] at hml hxb HI
         have HNX:=yh hnx
         have hl2:m2.length=17:=by rw [← hm2,List.length_set];exact hml
         have cx:wr.cell? ⟨gs,k,none⟩=some (.int .i64 (gI m k)):=by rw [cell_of_row _ _ _ _ _ _ HI.out.ss,zau _ _ (by omega)]
         have cy:wr.cell? ⟨gs,k+1,none⟩=some (.int .i64 (gI m (k+1))):=by rw [cell_of_row _ _ _ _ _ _ HI.out.ss,zau _ _ (by omega)]
         have fx:wr.frozen? ⟨gs,k+1,none⟩=false:=by have:=HI.out.ss;simp [World.frozen?,this]
         obtain ⟨x,hx⟩:∃ x,gI m k=x:=⟨_,rfl⟩
         obtain ⟨y,hy⟩:∃ y,gI m (k+1)=y:=⟨_,rfl⟩
         obtain ⟨q,hq⟩:∃ q,x/65536=q:=⟨_,rfl⟩
         obtain ⟨r,hr⟩:∃ r,x % 65536=r:=⟨_,rfl⟩
         obtain ⟨s,hs⟩:∃ s,y+q=s:=⟨_,rfl⟩
         rw [hx] at hxb cx hg2
         rw [hy] at hyb cy
         rw [hx,hr] at hnx
         rw [hx,hy,hq,hs] at hm2
         rw [hx,hr] at HNX
         have f1:IntKind.i64.wrap s=s:=by rw [IntKind.wrap_i64];omega
         have f2:bits .and .i64 x 65535=r:=by rw [i64_lo16,hr]
         have f3:IntKind.i64.wrap ((k:Int)+1)=(k:Int)+1:=by rw [IntKind.wrap_i64];omega
         have e7:decide ((k:Int)<16)=true:=decide_eq_true (by omega)
         have p1:0≤(k:Int):=by omega
         have p2:(k:Int)<16:=by omega
         have p3:0≤(k:Int)+1:=by omega
         have p4:(k:Int)+1<17:=by omega
         have p5:(k:Int)<17:=by omega
         have HI2:Hid (MoS w (wr.drew.setCell ⟨gs,k+1,none⟩ (.int .i64 s)) g gd gl gr gs D (dgN 17 (R2:Int)) m2 z32):=yh (by rw [← hm2];exact (HI.out.drew).cell (k+1) _)
         have c2:(wr.setCell ⟨gs,k+1,none⟩ (.int .i64 s)).drew.cell? ⟨gs,k,none⟩=some (.int .i64 x):=by rw [show (wr.setCell ⟨gs,k+1,none⟩ (.int .i64 s)).drew=wr.drew.setCell ⟨gs,k+1,none⟩ (.int .i64 s) from rfl,cell_of_row _ _ _ _ _ _ HI2.out.ss,zau _ _ (by omega),hg2]
         have z2:(wr.setCell ⟨gs,k+1,none⟩ (.int .i64 s)).drew.frozen? ⟨gs,k,none⟩=false:=by
          have:=HI2.out.ss
          show (wr.drew.setCell ⟨gs,k+1,none⟩ (.int .i64 s)).frozen? ⟨gs,k,none⟩=false
          simp [World.frozen?,this]
         have HI3:Hid (MoS w ((wr.drew.setCell ⟨gs,k+1,none⟩ (.int .i64 s)).setCell ⟨gs,k,none⟩ (.int .i64 r)) g gd gl gr gs D (dgN 17 (R2:Int)) (m2.set k r) z32):=yh (HI2.out.cell k _)
         clear hst hm hm2 hnx hg2 hml hl2 hx hy hr HI HI2 hk
         go_wp2_with fail
         refine wp_region_still_tail 11 (by kernel_rfl) (by kernel_rfl) ?_
         simp only [List.take_succ_cons,List.take_zero,List.drop_succ_cons,List.drop_zero]
         iterate 11 still_step
         refine wpStill_nil ?_
         go_wp2_with fail
         go_roundw
         case rel=>exact ⟨k+1,by omega,by go_num,by rw [HNX.out];exact HI3⟩
         case measure=>simp [intOf];omega
        ·have e7:decide ((k:Int)<16)=false:=decide_eq_false (by omega)
         have hk16:k=16:=by omega
         rw [hk16] at HI
         have hsc:=sub_carry R2 HR2L.out
         obtain ⟨m,hm⟩:∃ m,zap (subG R2) 16=m:=⟨_,rfl⟩
         rw [hm] at hsc HI
         have hml:m.length=17:=by rw [← hm,zaL,subG_len]
         obtain ⟨top,htop⟩:∃ x,gI m 16=x:=⟨_,rfl⟩
         have ct:wr.cell? ⟨gs,16,none⟩=some (.int .i64 top):=by rw [cell_of_row _ _ _ _ _ _ HI.out.ss,zau _ _ (by omega),htop]
         rw [htop] at hsc
         by_cases hle:LL≤R2
         ·have ht:decide (0≤top)=true:=decide_eq_true (hsc.1.2 hle)
          have hmd:=hsc.2 hle
          have hnx:modR V j=R2-LL:=by have:=HN3.out;rwa [if_pos hle] at this
          have hss:=HI.out.ss
          have hrr:=HI.out.base.rr
          have HI2:Hid (MoI w (wr.setRow gr (tabI m)) g gd gl gr D (dgN 17 (modR V j:Int)) z32):=yh (by rw [hnx,← hmd];exact HI.out.base.row m)
          have iM:(Tryz.prog.info? 146).map (·.size)=some (tabI m).size:=info17 hml
          have oM:=zbb m
          have sM:(tabI (dgN 17 (R2:Int))).size=(tabI m).size:=by rw [zaF,zaF,zaw,hml]
          obtain ⟨TM,hTM⟩:∃ X,tabI m=X:=⟨_,rfl⟩
          obtain ⟨TX,hTX⟩:∃ X,tabI (dgN 17 (R2:Int))=X:=⟨_,rfl⟩
          rw [hTM] at hss iM oM sM HI2
          rw [hTX] at hrr sM
          clear hsc hmd hnx hTM hTX hml htop hm hle HI hk16 hlt hk HN3 HR2L
          have hj:=HQ.out
          go_wp2_with (first
           | (refine yi hss Tryz.underlying146 iM ?_)
           | (refine yj TM hrr iM sM oM ?_))
          go_roundw
          case rel=>exact ⟨j,by have:=HQ.out;omega,by first | rfl | go_num,HI2⟩
          case measure=>first | (simp [intOf];done) | (simp [intOf];omega)
         ·have ht:decide (0≤top)=false:=decide_eq_false (fun h=>hle (hsc.1.1 h))
          have hnx:modR V j=R2:=by have:=HN3.out;rwa [if_neg hle] at this
          have HI2:Hid (MoI w wr g gd gl gr D (dgN 17 (modR V j:Int)) z32):=yh (by rw [hnx];exact HI.out.base)
          clear hsc hnx hml htop hm hle HI hk16 hlt hk HN3 HR2L
          have hj:=HQ.out
          go_wp2_with fail
          go_roundw
          case rel=>exact ⟨j,by have:=HQ.out;omega,by first | rfl | go_num,HI2⟩
          case measure=>first | (simp [intOf];done) | (simp [intOf];omega)
  | zero =>
   have b4:decide ((0:Int)≤-1)=false:=by decide
   have b5:decide (0≤(((0:Nat):Int)-1))=false:=by decide
   obtain ⟨R,hR⟩:∃ R,modR V 0=R:=⟨_,rfl⟩
   rw [hR] at HI
   rw [modR_zero] at hR
   have hRl:R<256^32:=by rw [← hR];exact Nat.lt_trans (Nat.mod_lt _ (by decide)) (show LL<256^32 by decide)
   have HRE:=yh hR
   have HRL:=yh hRl
   have h7:(wr.alloc (.cells z32 22)).heap[wr.heap.size]?=some (.cells z32 22 (0,0)):=heap_alloc_new _ _
   have i32:(Tryz.prog.info? 22).map (·.size)=some z32.size:=by rw [HZS.out];kernel_rfl
   have o32:z32.all (·.oneCell')=true:=by rw [HZ32.out];exact zaq _
   have HO0:Hid (MoO w ((wr.alloc (.cells z32 22)).setRow wr.heap.size z32) g gr wr.heap.size (dgN 17 (R:Int)) z32 (byK R 0)):=yh (by
    have a:=HI.out.lt
    have b:=HI.out.o2
    have c:=HI.out.o3
    have d:g≤wr.heap.size:=by have:=HI.out.below.size;have:=HG.out;omega
    refine ⟨?_,?_,?_,by omega,a,zab (HI.out.below.alloc d _) d⟩
    ·rw [setRow_other _ _ _ _ (by omega),heap_alloc_old _ _ (by omega)];exact HI.out.res
    ·rw [setRow_other _ _ _ _ (by omega),heap_alloc_old _ _ (by omega)];exact HI.out.rr
    ·rw [byK_zero,← HZ32.out];exact setRow_heap _ _ _ _ _ _ h7)
   clear HI hR hRl hk
   go_wp2_with (first
    | (refine zaj (o:=⟨some 93,_,_,_,_,_⟩) rfl (.agg z32) (by rw [← HZE.out];kernel_rfl) ?_)
    | (refine yj z32 h7 i32 rfl o32 ?_))
   obtain ⟨W7,hW7⟩:∃ X,(wr.alloc (.cells z32 22)).setRow wr.heap.size z32=X:=⟨_,rfl⟩
   obtain ⟨go,hgo⟩:∃ X,wr.heap.size=X:=⟨_,rfl⟩
   rw [hgo] at hW7
   rw [hgo,hW7] at HO0
   rw [hgo,hW7]
   clear hW7 hgo h7 i32 o32 b4 b5
   go_loopw [13] (fun i wr=>∃ k:Nat,k≤32∧i=.int .i64 (k:Int)∧Hid (MoO w wr g gr go (dgN 17 (R:Int)) z32 (byK R k))) (fun i _=>32-(intOf i).toNat)
   case atStart=>exact ⟨0,by omega,rfl,HO0⟩
   case round =>
    clear HO0
    obtain ⟨k,hk,rfl,HO0⟩:=hrel
    by_cases hlt:k<32
    ·obtain ⟨q,hq⟩:∃ q,k/2=q:=⟨_,rfl⟩
     obtain ⟨r,hr⟩:∃ r,k % 2=r:=⟨_,rfl⟩
     obtain ⟨e,he⟩:∃ e,8*r=e:=⟨_,rfl⟩
     have hq17:q<17:=by omega
     have hby:=byte_dg R k
     rw [hq,hr,he] at hby
     obtain ⟨dv,hdv⟩:∃ d,R/65536^q % 65536=d:=⟨_,rfl⟩
     rw [hdv] at hby
     obtain ⟨y,hy⟩:∃ y,dv/2^e=y:=⟨_,rfl⟩
     rw [hy] at hby
     have cr:wr.cell? ⟨gr,q,none⟩=some (.int .i64 (dv:Int)):=by rw [cell_of_row _ _ _ _ _ _ HO0.out.rr,zau _ _ (by rw [zaw];exact hq17),gI_dgN 17 q R hq17,hdv]
     have ce:wr.cell? ⟨go,k,none⟩=some (.int .u8 (((byK R k).getD k 0).toNat:Int)):=by rw [cell_of_row _ _ _ _ _ _ HO0.out.out,zaG _ _ (by rw [byK_len];exact hlt)]
     have fx:wr.frozen? ⟨go,k,none⟩=false:=by have:=HO0.out.out;simp [World.frozen?,this]
     obtain ⟨v,hv⟩:∃ v:Nat,(byF R k).toNat=v:=⟨_,rfl⟩
     have hv2:v=y % 256:=by rw [← hv,byF_nat,hby]
     have HO2:Hid (MoO w (wr.setCell ⟨go,k,none⟩ (.int .u8 (v:Int))) g gr go (dgN 17 (R:Int)) z32 (byK R (k+1))):=yh (by
      have h:=HO0.out.set k (byF R k)
      rwa [byK_set _ _ hlt,hv] at h)
     have f1:(dv:Int)/2^e=(y:Int):=by rw [← hy,Int.natCast_ediv];simp
     have f2:bits .and .i64 (y:Int) 255=(v:Int):=by rw [i64_lo8];omega
     have f2':IntKind.u8.wrap (v:Int)=(v:Int):=by rw [IntKind.wrap_u8];omega
     have f3:(k:Int).tdiv 2=(q:Int):=by rw [Int.tdiv_eq_ediv_of_nonneg (by omega)];omega
     have f3':(k:Int)/2=(q:Int):=by omega
     have f4:(k:Int).tmod 2=(r:Int):=by rw [Int.tmod_eq_emod_of_nonneg (by omega)];omega
     have f4':(k:Int) % 2=(r:Int):=by omega
     have f5:(8:Int)*(r:Int)=(e:Int):=by omega
     have f6:IntKind.u64.wrap (e:Int)=(e:Int):=by rw [IntKind.wrap_u64];omega
     have b1:0≤(q:Int):=by omega
     have b2:(q:Int)<17:=by omega
     have b3:0≤(e:Int):=by omega
     have b5:0≤(k:Int):=by omega
     have b6:(k:Int)<32:=by omega
     have b7:decide ((k:Int)<32)=true:=decide_eq_true (by omega)
     generalize ((byK R k).getD k 0)=old at *
     clear HO0 hq hr he hby hdv hy hv hv2 hk
     go_wp2_with fail
     go_roundw
     case rel=>exact ⟨k+1,by omega,by go_num,HO2⟩
     case measure=>simp [intOf];omega
    ·have b7:decide ((k:Int)<32)=false:=decide_eq_false (by omega)
     have hk32:k=32:=by omega
     rw [hk32,byK_end R 32 HRL.out (by omega)] at HO0
     have h1:=HO0.out.out
     have h0:=HO0.out.res
     have iO:(Tryz.prog.info? 22).map (·.size)=some (arrB (leB 32 R)).size:=info32 (zam _ _)
     have oO:=zaq (leB 32 R)
     have sO:z32.size=(arrB (leB 32 R)).size:=by rw [HZS.out,zat,zam]
     have HBE:Hid (Below w.heap.size w (wr.setRow g (arrB (leB 32 R)))):=yh (by rw [HG.out];exact zab HO0.out.below (Nat.le_refl _))
     obtain ⟨OUT,hOUT⟩:∃ o,arrB (leB 32 R)=o:=⟨_,rfl⟩
     rw [hOUT] at h1 iO oO sO HBE
     have HOUT:Hid (arrB (leB 32 (V % LL))=OUT):=yh (by rw [HRE.out,hOUT])
     clear HO0 hOUT hk32 hlt hk
     go_wp2_with (first
      | (refine yi h1 Tryz.underlying22 iO ?_)
      | (refine yj OUT h0 iO sO oO ?_))
     (try simp only [Exit.inBlock,Exit.then])
     refine bodyPost_ret (results_cell_row rfl _ _ g _ OUT _ _ rfl (setRow_heap _ _ _ _ _ _ h0) Tryz.underlying22 rfl iO) rfl ?_
     exact ⟨by rw [HOUT.out],HBE.out⟩
theorem gI_take {l:List Int} {n i:Nat} (h:i<n):gI (l.take n) i=gI l i:=by unfold gI;simp [List.getD,h]
theorem carry_dg {n:Nat} {B:Int} {l:List Int} (hl:l.length=n+1) (hB:2≤B) (hb:Bd B l) (h0:0≤vL l) (h1:vL l<65536^(n+1)):zap l n=dgN (n+1) (vL l):=by
 have st:=zbD hB hb n (by omega)
 have hv:=carryTo_val l n (by omega)
 have hml:(zap l n).length=n+1:=by rw [zaL,hl]
 generalize zap l n=m at *
 have e:m=m.take n++[gI m n]:=by
  have e1:=List.take_append_drop n m
  have d:m.drop n=[gI m n]:=by
   rw [List.drop_eq_getElem_cons (by omega),List.drop_eq_nil_of_le (by omega)]
   simp [gI,List.getD,List.getElem?_eq_getElem (show n<m.length by omega)]
  rw [← d];exact e1.symm
 have ht:(m.take n).length=n:=by rw [List.length_take];omega
 have hs:=vL_split (m.take n) (gI m n)
 rw [← e,ht] at hs
 have hbn:=vL_bound (m.take n) (fun i hi=>by rw [ht] at hi;rw [gI_take hi];exact st.low i hi)
 rw [ht] at hbn
 have:=dg_unique m (fun i hi=>by
  rw [hml] at hi
  by_cases hin:i<n
  ·exact st.low i hin
  ·have:i=n:=by omega
   subst this
   rw [Int.pow_succ] at h1
   rw [← hv,hs] at h0 h1
   have hP:(0:Int)<65536^i:=Int.pow_pos (by decide)
   generalize (65536:Int)^i=P at *
   generalize gI m i=t at *
   generalize vL (m.take i)=z at *
   constructor
   ·refine Int.not_lt.1 fun hneg=>?_
    have:t*P≤-1*P:=Int.mul_le_mul_of_nonneg_right (by omega) (by omega)
    omega
   ·refine Int.not_le.1 fun hge=>?_
    have:65536*P≤t*P:=Int.mul_le_mul_of_nonneg_right hge (by omega)
    rw [Int.mul_comm P 65536] at h1
    omega)
 rw [hml,hv] at this
 exact this
structure CaI (w wr:World) (g:Nat) (D:List Int):Prop where
 row:wr.heap[g]?=some (.cells (tabI D) 2 (0,0))
 only:Only (fun j=>j=g) w wr
theorem CaI.drew {w wr:World} {g:Nat} {D:List Int} (h:CaI w wr g D):CaI w wr.drew g D:=⟨h.row,h.only.drew⟩
theorem CaI.cell {w wr:World} {g:Nat} {D:List Int} (h:CaI w wr g D) (k:Nat) (v:Int):CaI w (wr.setCell ⟨g,k,none⟩ (.int .i64 v)) g (D.set k v) :=
 ⟨by rw [setCell_eq_setRow wr g k _ _ _ (.int .i64 v) h.row,zaV];exact setRow_heap _ _ _ _ _ _ h.row,h.only.setCell (p:=⟨g,k,none⟩) (.inl rfl) _⟩
theorem rcarried_any (g:Nat) (B:Int) (D:List Int) (hD:D.length=34) (hB:2≤B) (hB2:B≤35184372088832) (hb:Bd B D) (w:World) (hrow:w.heap[g]?=some (.cells (tabI D) 2 (0,0))) :
  Calls Tryz.prog 75 #[.slice (some ⟨g,0,none⟩) 34 34] w fun e w'=>e=.returned (.slice (some ⟨g,0,none⟩) 34 34)∧CaI w w' g (zap D 33):=by
 have HI:Hid (CaI w w g (zap D 0)):=yh ⟨hrow,Only.refl _ _⟩
 have HDL:=yh hD
 have HB:=yh hb
 have HB1:=yh hB
 have HB2:=yh hB2
 clear hrow hD hb hB hB2
 go_enter Tryz.func75,Tryz.ntmps75
 go_wp2_with fail
 go_loopw [3] (fun i wr=>∃ k:Nat,k≤33∧i=.int .i64 (k:Int)∧Hid (CaI w wr g (zap D k))) (fun i _=>33-(intOf i).toNat)
 case atStart=>exact ⟨0,by omega,rfl,HI⟩
 case round =>
  clear HI
  obtain ⟨k,hk,rfl,HI⟩:=hrel
  by_cases hlt:k<33
  ·have hml:(zap D k).length=34:=by rw [zaL,HDL.out]
   have hst:=zbD (l:=D) HB1.out HB.out k (by rw [HDL.out];omega)
   have hbx:=HB.out (k+1)
   have hbb:=HB2.out
   obtain ⟨m,hm⟩:∃ m,zap D k=m:=⟨_,rfl⟩
   obtain ⟨m2,hm2⟩:∃ m2,m.set (k+1) (gI m (k+1)+gI m k/65536)=m2:=⟨_,rfl⟩
   have hnx:zap D (k+1)=m2.set k (gI m k % 65536):=by rw [zap,hm,← hm2];rfl
   have hg2:gI m2 k=gI m k:=by rw [← hm2,gI_set _ _ _ _ (by rw [← hm,hml];omega),if_neg (by omega)]
   have hxb:=hst.at_
   have hyb:-B≤gI m (k+1)∧gI m (k+1)≤B:=by
    have h1:=hst.high (k+1) (by omega)
    rw [hm] at h1
    rw [h1]
    exact hbx
   rw [hm] at hml hxb HI
   have HNX:=yh hnx
   have hl2:m2.length=34:=by rw [← hm2,List.length_set];exact hml
   have cx:wr.cell? ⟨g,k,none⟩=some (.int .i64 (gI m k)):=by rw [cell_of_row _ _ _ _ _ _ HI.out.row,zau _ _ (by omega)]
   have cy:wr.cell? ⟨g,k+1,none⟩=some (.int .i64 (gI m (k+1))):=by rw [cell_of_row _ _ _ _ _ _ HI.out.row,zau _ _ (by omega)]
   have fx:wr.frozen? ⟨g,k+1,none⟩=false:=by have:=HI.out.row;simp [World.frozen?,this]
   obtain ⟨x,hx⟩:∃ x,gI m k=x:=⟨_,rfl⟩
   obtain ⟨y,hy⟩:∃ y,gI m (k+1)=y:=⟨_,rfl⟩
   obtain ⟨q,hq⟩:∃ q,x/65536=q:=⟨_,rfl⟩
   obtain ⟨r,hr⟩:∃ r,x % 65536=r:=⟨_,rfl⟩
   obtain ⟨s,hs⟩:∃ s,y+q=s:=⟨_,rfl⟩
   rw [hx] at hxb cx hg2
   rw [hy] at hyb cy
   rw [hx,hr] at hnx
   rw [hx,hy,hq,hs] at hm2
   rw [hx,hr] at HNX
   have f1:IntKind.i64.wrap s=s:=by rw [IntKind.wrap_i64];omega
   have f2:bits .and .i64 x 65535=r:=by rw [i64_lo16,hr]
   have f3:IntKind.i64.wrap ((k:Int)+1)=(k:Int)+1:=by rw [IntKind.wrap_i64];omega
   have p1:0≤(k:Int):=by omega
   have p2:(k:Int)<33:=by omega
   have p3:0≤(k:Int)+1:=by omega
   have p4:(k:Int)+1<34:=by omega
   have p5:(k:Int)<34:=by omega
   have e7:decide ((k:Int)+1<34)=true:=decide_eq_true (by omega)
   have HI2:Hid (CaI w (wr.drew.setCell ⟨g,k+1,none⟩ (.int .i64 s)) g m2):=yh (by rw [← hm2];exact (HI.out.drew).cell (k+1) _)
   have c2:(wr.setCell ⟨g,k+1,none⟩ (.int .i64 s)).drew.cell? ⟨g,k,none⟩=some (.int .i64 x):=by rw [show (wr.setCell ⟨g,k+1,none⟩ (.int .i64 s)).drew=wr.drew.setCell ⟨g,k+1,none⟩ (.int .i64 s) from rfl,cell_of_row _ _ _ _ _ _ HI2.out.row,zau _ _ (by omega),hg2]
   have z2:(wr.setCell ⟨g,k+1,none⟩ (.int .i64 s)).drew.frozen? ⟨g,k,none⟩=false:=by
    have:=HI2.out.row
    show (wr.drew.setCell ⟨g,k+1,none⟩ (.int .i64 s)).frozen? ⟨g,k,none⟩=false
    simp [World.frozen?,this]
   have HI3:Hid (CaI w ((wr.drew.setCell ⟨g,k+1,none⟩ (.int .i64 s)).setCell ⟨g,k,none⟩ (.int .i64 r)) g (m2.set k r)):=yh (HI2.out.cell k _)
   clear hst hm hm2 hnx hg2 hml hl2 hx hy hr HI HI2 hk hbx
   go_wp2_with fail
   refine wp_region_still_tail 14 (by kernel_rfl) (by kernel_rfl) ?_
   simp only [List.take_succ_cons,List.take_zero,List.drop_succ_cons,List.drop_zero]
   iterate 14 still_step
   refine wpStill_nil ?_
   go_wp2_with fail
   go_roundw
   case rel=>exact ⟨k+1,by omega,by go_num,by rw [HNX.out];exact HI3⟩
   case measure=>simp [intOf];omega
  ·have e7:decide ((k:Int)+1<34)=false:=decide_eq_false (by omega)
   have hk33:k=33:=by omega
   rw [hk33] at HI
   have p4:(k:Int)+1<1000:=by omega
   have p3:0≤(k:Int):=by omega
   clear hk33 hlt hk
   go_wp2_with fail
   go_ret
   exact ⟨rfl,HI.out⟩
theorem rreduce11_any (l:List UInt8) (hl:l.length=64) (W:World):Calls Tryz.prog 28 #[.agg (arrB l)] W fun e w'=>e=.returned (.agg (arrB (leB 32 (leN l % LL))))∧Below W.heap.size W w':=by
 have hz:=fun u=>zer32_zero u
 have hV:leN l<65536^34:=by have:=leN_lt l;rw [hl] at this;exact Nat.lt_trans this (by decide)
 have HDI:Hid (∀ (A:Option Addr) (W:World),Bs W A l→Calls Tryz.prog 58 #[.slice A 64 64] W (RetD W l)):=yh fun A W hb=>by
  have h:=rdigits_any A l 64 W hb (by omega)
  rwa [hl] at h
 have HMO:Hid (∀ (gd:Nat) (W:World),W.heap[gd]?=some (.cells (tabI (dgN 34 (leN l:Int))) 2 (0,0))→Calls Tryz.prog 57 #[.slice (some ⟨gd,0,none⟩) 34 34] W fun e w'=>e=.returned (.agg (arrB (leB 32 (leN l % LL))))∧Below W.heap.size W w'):=yh fun gd W h=>rmodulo_any gd _ hV W h
 have iO:(Tryz.prog.info? 22).map (·.size)=some (arrB (leB 32 (leN l % LL))).size:=info32 (zam _ _)
 have oO:=zaq (leB 32 (leN l % LL))
 have sO:zer32.size=(arrB (leB 32 (leN l % LL))).size:=by rw [zer32_size,zat,zam]
 generalize zer32=z32 at *
 generalize arrB (leB 32 (leN l % LL))=OUT at *
 have h1:((W.alloc (.cells (arrB l) 24)).alloc (.cells z32 22)).heap[W.heap.size]?=some (.cells (arrB l) 24 (0,0)):=heap_alloc2_old _ _ _
 have h2:((W.alloc (.cells (arrB l) 24)).alloc (.cells z32 22)).heap[W.heap.size+1]?=some (.cells z32 22 (0,0)):=heap_alloc2_new _ _ _
 obtain ⟨BB,hBB⟩:∃ b,arrB l=b:=⟨_,rfl⟩
 obtain ⟨W1,hW1⟩:∃ X,(W.alloc (.cells BB 24)).alloc (.cells z32 22)=X:=⟨_,rfl⟩
 rw [hBB,hW1] at h2
 have HBS:Hid (Bs W1 (some ⟨W.heap.size,0,none⟩) l):=yh (by rw [← hW1,← hBB];exact bs_arr h1)
 have HB1:Hid (Below W.heap.size W W1):=yh (by rw [← hW1];exact below_al (below_al (Below.refl _ _) _) _)
 have HW1:=yh hW1
 have H2:=yh h2
 rw [hBB]
 clear hBB hW1 h1 h2 hV hl
 go_enter Tryz.func28,Tryz.ntmps28
 go_wp2_with fail
 rw [HW1.out]
 with_reducible refine (HDI.out _ _ HBS.out).mono ?_
 rintro e v1 ⟨gd,rfl,hd1,hgd,hb1⟩
 have HD1:=yh hd1
 have HB2:=yh (below_nx HB1.out hb1)
 have H3:Hid (v1.heap[W.heap.size+1]?=some (.cells z32 22 (0,0))):=yh (by rw [hb1.block _ (Array.getElem?_eq_some_iff.1 H2.out).1];exact H2.out)
 clear hd1 hgd hb1 HBS
 go_wp2_with fail
 with_reducible refine (HMO.out _ _ HD1.out).mono ?_
 rintro e v2 ⟨rfl,hb2⟩
 have hr2:v2.heap[W.heap.size+1]?=some (.cells z32 22 (0,0)):=by rw [hb2.block _ (Array.getElem?_eq_some_iff.1 H3.out).1];exact H3.out
 have HE:Hid (Below W.heap.size W (v2.setRow (W.heap.size+1) OUT)):=yh (zab (below_nx HB2.out hb2) (by omega))
 clear hb2
 go_wp2_with (refine yj OUT hr2 iO sO oO ?_)
 (try simp only [Exit.inBlock,Exit.then])
 refine bodyPost_ret (results_cell_row rfl _ _ (W.heap.size+1) _ OUT _ _ rfl (setRow_heap _ _ _ _ _ _ hr2) Tryz.underlying22 rfl iO) rfl ?_
 exact ⟨rfl,HE.out⟩
theorem dig32 (l:List UInt8) (hl:l.length=32):Hid (∀ (A:Option Addr) (W:World),Bs W A l→Calls Tryz.prog 58 #[.slice A 32 32] W (RetD W l)):=yh fun A W hb=>by
 have h:=rdigits_any A l 32 W hb (by omega)
 rwa [hl] at h
theorem n34_lt {l:List UInt8} (hl:l.length=32):leN l<65536^34:=by have:=leN_lt l;rw [hl] at this;exact Nat.lt_trans this (by decide)
structure SuI (w wr:World) (g gx gy:Nat) (X Y:List Int) (z:Array Value):Prop where
 res:wr.heap[g]?=some (.cells z 22 (0,0))
 xx:wr.heap[gx]?=some (.cells (tabI X) 2 (0,0))
 yy:wr.heap[gy]?=some (.cells (tabI Y) 2 (0,0))
 n1:g≠gx
 n2:gy≠gx
 low:w.heap.size≤gx
 below:Below w.heap.size w wr
section
variable {w wr:World} {g gx gy:Nat} {X Y:List Int} {z:Array Value}
theorem SuI.drew (h:SuI w wr g gx gy X Y z):SuI w wr.drew g gx gy X Y z:=⟨h.res,h.xx,h.yy,h.n1,h.n2,h.low,h.below.drew⟩
theorem SuI.cell (h:SuI w wr g gx gy X Y z) (k:Nat) (v:Int):SuI w (wr.setCell ⟨gx,k,none⟩ (.int .i64 v)) g gx gy (X.set k v) Y z:=by
 rw [setCell_eq_setRow wr gx k _ _ _ (.int .i64 v) h.xx,zaV]
 exact ⟨by rw [setRow_other _ _ _ _ h.n1];exact h.res,setRow_heap _ _ _ _ _ _ h.xx,by rw [setRow_other _ _ _ _ h.n2];exact h.yy,h.n1,h.n2,h.low,zab h.below h.low⟩
theorem SuI.turned (h:SuI w wr g gx gy X Y z) {w':World} (ho:Only (fun j=>j=gx) wr w'):w'.heap[g]?=some (.cells z 22 (0,0))∧Below w.heap.size w w':=by
 have hlt:g<wr.heap.size:=(Array.getElem?_eq_some_iff.1 h.res).1
 refine ⟨by rw [ho.block _ hlt (fun e=>h.n1 e)];exact h.res,?_⟩
 exact h.below.trans (ho.below h.below.size (fun k hk e=>by have:=h.low;omega))
end
theorem modC {D:List Int} {V:Nat} (hl:D.length=34) {B:Int} (hB:2≤B) (hb:Bd B D) (hv:vL D=(V:Int)) (hV:V<65536^34) (gd:Nat) (W:World) (h:W.heap[gd]?=some (.cells (tabI (zap D 33)) 2 (0,0))) :
  Calls Tryz.prog 57 #[.slice (some ⟨gd,0,none⟩) 34 34] W fun e w'=>e=.returned (.agg (arrB (leB 32 (V % LL))))∧Below W.heap.size W w':=by
 have e:=carry_dg (n:=33) hl hB hb (by rw [hv];omega) (by rw [hv,pow34];exact Int.ofNat_lt.2 hV)
 rw [hv] at e
 rw [e] at h
 exact rmodulo_any gd V hV W h
def mulZ (x y z:List Int):Nat→List Int
 | 0=>z
 | i+1=>zaT x y (mulZ x y z i) i 16
theorem mulZ_len (x y z:List Int):∀ i,(mulZ x y z i).length=z.length
 | 0=>rfl
 | i+1=>by rw [mulZ,zbv,mulZ_len x y z i]
theorem mulRow34_val (x y t:List Int) (i:Nat) (hy:y.length=34) (ht:t.length=34) (hi:i<16):∀ k,k≤16→vL (zaT x y t i k)=vL t+gI x i*65536^i*vL (y.take k)
 | 0,_=>by simp [zaT,vL]
 | k+1,hk=>by
  have ih:=mulRow34_val x y t i hy ht hi k (by omega)
  rw [zaT,mulAt,vL_set _ _ _ (by rw [zbv];omega),ih,take_val y k (by omega),Int.pow_add]
  generalize gI (zaT x y t i k) (i+k)=a
  generalize vL (y.take k)=b
  generalize (65536:Int)^i=p
  generalize (65536:Int)^k=q
  grind
theorem mulZ_val (x y z:List Int) (hx:x.length=34) (hy:y.length=34) (hz:z.length=34):∀ i,i≤16→vL (mulZ x y z i)=vL z+vL (x.take i)*vL (y.take 16)
 | 0,_=>by rw [List.take_zero,mulZ];simp [vL]
 | i+1,h=>by
  have ih:=mulZ_val x y z hx hy hz i (by omega)
  rw [mulZ,mulRow34_val x y _ i hy (by rw [mulZ_len,hz]) (by omega) 16 (by omega),ih,take_val x i (by omega),Int.add_mul,Int.add_assoc]
theorem mulRow34_bd (x y t:List Int) (i:Nat) (M:Int) (hx:∀ j,0≤gI x j∧gI x j<65536) (hy:∀ j,0≤gI y j∧gI y j<65536) (ht:t.length=34) (hi:i<16) (hM:∀ j,0≤gI t j∧gI t j≤M):∀ k,k≤16→∀ j,0≤gI (zaT x y t i k) j∧gI (zaT x y t i k) j≤M+k*4294967296
 | 0,_,j=>by have:=hM j;rw [zaT];omega
 | k+1,hk,j=>by
  have ih:=mulRow34_bd x y t i M hx hy ht hi hM k (by omega)
  have hp:=mul_small (hx i) (hy k)
  rw [zaT,mulAt,gI_set _ _ _ _ (by rw [zbv];omega)]
  have h1:=ih j
  have h2:=ih (i+k)
  generalize gI x i*gI y k=p at *
  split <;> omega
theorem mulZ_bd (x y z:List Int) (hx:∀ j,0≤gI x j∧gI x j<65536) (hy:∀ j,0≤gI y j∧gI y j<65536) (hzl:z.length=34) (hz:∀ j,0≤gI z j∧gI z j<65536):∀ i,i≤16→∀ j,0≤gI (mulZ x y z i) j∧gI (mulZ x y z i) j≤65536+i*68719476736
 | 0,_,j=>by rw [mulZ];have:=hz j;omega
 | i+1,h,j=>by
  have ih:=mulZ_bd x y z hx hy hzl hz i (by omega)
  have h1:=mulRow34_bd x y (mulZ x y z i) i _ hx hy (by rw [mulZ_len,hzl]) (by omega) ih 16 (by omega) j
  rw [mulZ]
  omega
theorem dg_pr (n:Nat) (v:Int):∀ j,0≤gI (dgN n v) j∧gI (dgN n v) j<65536:=fun j=>by
 by_cases h:j<n
 ·exact dgN_get n v j h
 ·rw [gI_out (by rw [zaw];omega)];omega
theorem take_dgN:∀ (m n:Nat) (v:Int),m≤n→(dgN n v).take m=dgN m v
 | 0,_,_,_=>by simp [dgN]
 | m+1,0,_,h=>by omega
 | m+1,n+1,v,h=>by rw [dgN,dgN,List.take_succ_cons,take_dgN m n _ (by omega)]
theorem pow16:(65536:Int)^16=((65536^16:Nat):Int):=by decide
theorem muladd_val (a b c:Nat) (ha:a<65536^16) (hb:b<65536^16) (hc:c<65536^34):vL (mulZ (dgN 34 (a:Int)) (dgN 34 (b:Int)) (dgN 34 (c:Int)) 16)=((a*b+c:Nat):Int):=by
 rw [mulZ_val _ _ _ (zaw _ _) (zaw _ _) (zaw _ _) 16 (by omega),take_dgN 16 34 _ (by omega),take_dgN 16 34 _ (by omega),vL_dgN 16 _ (by omega) (by rw [pow16];exact Int.ofNat_lt.2 ha),vL_dgN 16 _ (by omega) (by rw [pow16];exact Int.ofNat_lt.2 hb),vL_dgN 34 _ (by omega) (by rw [pow34];exact Int.ofNat_lt.2 hc)]
 rw [Int.natCast_add,Int.natCast_mul,Int.add_comm]
structure MuI (w wr:World) (g gx gy gz:Nat) (X Y Z:List Int) (z:Array Value):Prop where
 res:wr.heap[g]?=some (.cells z 22 (0,0))
 xx:wr.heap[gx]?=some (.cells (tabI X) 2 (0,0))
 yy:wr.heap[gy]?=some (.cells (tabI Y) 2 (0,0))
 zz:wr.heap[gz]?=some (.cells (tabI Z) 2 (0,0))
 n0:g≠gz
 n1:gx≠gz
 n2:gy≠gz
 low:w.heap.size≤gz
 below:Below w.heap.size w wr
section
variable {w wr:World} {g gx gy gz:Nat} {X Y Z:List Int} {z:Array Value}
theorem MuI.drew (h:MuI w wr g gx gy gz X Y Z z):MuI w wr.drew g gx gy gz X Y Z z:=⟨h.res,h.xx,h.yy,h.zz,h.n0,h.n1,h.n2,h.low,h.below.drew⟩
theorem MuI.cell (h:MuI w wr g gx gy gz X Y Z z) (k:Nat) (v:Int):MuI w (wr.setCell ⟨gz,k,none⟩ (.int .i64 v)) g gx gy gz X Y (Z.set k v) z:=by
 rw [setCell_eq_setRow wr gz k _ _ _ (.int .i64 v) h.zz,zaV]
 exact ⟨by rw [setRow_other _ _ _ _ h.n0];exact h.res,by rw [setRow_other _ _ _ _ h.n1];exact h.xx,by rw [setRow_other _ _ _ _ h.n2];exact h.yy,setRow_heap _ _ _ _ _ _ h.zz,h.n0,h.n1,h.n2,h.low,zab h.below h.low⟩
theorem MuI.turned (h:MuI w wr g gx gy gz X Y Z z) {w':World} (ho:Only (fun j=>j=gz) wr w'):w'.heap[g]?=some (.cells z 22 (0,0))∧Below w.heap.size w w':=by
 have hlt:g<wr.heap.size:=(Array.getElem?_eq_some_iff.1 h.res).1
 refine ⟨by rw [ho.block _ hlt (fun e=>h.n0 e)];exact h.res,?_⟩
 exact h.below.trans (ho.below h.below.size (fun k hk e=>by have:=h.low;omega))
end
theorem n16_lt {l:List UInt8} (hl:l.length=32):leN l<65536^16:=by
 have:=leN_lt l;rw [hl] at this;rwa [show (256:Nat)^32=65536^16 by decide] at this
theorem rmuladd11_any (l m n:List UInt8) (hl:l.length=32) (hm:m.length=32) (hn:n.length=32) (W:World):Calls Tryz.prog 34 #[.agg (arrB l),.agg (arrB m),.agg (arrB n)] W fun e w'=>e=.returned (.agg (arrB (leB 32 ((leN l*leN m+leN n) % LL))))∧Below W.heap.size W w':=by
 have hz:=fun u=>zer32_zero u
 have HDL:=dig32 l hl
 have HDM:=dig32 m hm
 have HDN:=dig32 n hn
 have hval:=muladd_val (leN l) (leN m) (leN n) (n16_lt hl) (n16_lt hm) (n34_lt hn)
 have hlt:leN l*leN m+leN n<65536^34:=by
  have a:=n16_lt hl;have b:=n16_lt hm;have c:=n16_lt hn
  have:leN l*leN m≤65536^16*65536^16:=Nat.mul_le_mul (Nat.le_of_lt a) (Nat.le_of_lt b)
  exact Nat.lt_of_lt_of_le (Nat.add_lt_add_of_le_of_lt this c) (by decide)
 have hbd:Bd 35184372088832 (mulZ (dgN 34 (leN l:Int)) (dgN 34 (leN m:Int)) (dgN 34 (leN n:Int)) 16):=fun j=>by
  have:=mulZ_bd _ _ _ (dg_pr 34 (leN l:Int)) (dg_pr 34 (leN m:Int)) (zaw _ _) (dg_pr 34 (leN n:Int)) 16 (by omega) j
  omega
 have hlen:(mulZ (dgN 34 (leN l:Int)) (dgN 34 (leN m:Int)) (dgN 34 (leN n:Int)) 16).length=34:=by rw [mulZ_len,zaw]
 have HMO:Hid (∀ (gd:Nat) (W:World),W.heap[gd]?=some (.cells (tabI (zap (mulZ (dgN 34 (leN l:Int)) (dgN 34 (leN m:Int)) (dgN 34 (leN n:Int)) 16) 33)) 2 (0,0))→Calls Tryz.prog 57 #[.slice (some ⟨gd,0,none⟩) 34 34] W fun e w'=>e=.returned (.agg (arrB (leB 32 ((leN l*leN m+leN n) % LL))))∧Below W.heap.size W w'):=yh fun gd W h =>
  modC hlen (by decide) hbd hval hlt gd W h
 have HCA:Hid (∀ (gd:Nat) (W:World),W.heap[gd]?=some (.cells (tabI (mulZ (dgN 34 (leN l:Int)) (dgN 34 (leN m:Int)) (dgN 34 (leN n:Int)) 16)) 2 (0,0))→Calls Tryz.prog 75 #[.slice (some ⟨gd,0,none⟩) 34 34] W fun e w'=>e=.returned (.slice (some ⟨gd,0,none⟩) 34 34)∧CaI W w' gd (zap (mulZ (dgN 34 (leN l:Int)) (dgN 34 (leN m:Int)) (dgN 34 (leN n:Int)) 16) 33)):=yh fun gd W h =>
  rcarried_any gd 35184372088832 _ hlen (by decide) (by decide) hbd W h
 have HXP:=yh (dg_pr 34 (leN l:Int))
 have HYP:=yh (dg_pr 34 (leN m:Int))
 have HZB:=yh (mulZ_bd (dgN 34 (leN l:Int)) (dgN 34 (leN m:Int)) (dgN 34 (leN n:Int)) (dg_pr _ _) (dg_pr _ _) (zaw _ _) (dg_pr _ _))
 have HXL:=yh (zaw 34 (leN l:Int))
 have HYL:=yh (zaw 34 (leN m:Int))
 have HZL:=yh (zaw 34 (leN n:Int))
 have iO:(Tryz.prog.info? 22).map (·.size)=some (arrB (leB 32 ((leN l*leN m+leN n) % LL))).size:=info32 (zam _ _)
 have oO:=zaq (leB 32 ((leN l*leN m+leN n) % LL))
 have sO:zer32.size=(arrB (leB 32 ((leN l*leN m+leN n) % LL))).size:=by rw [zer32_size,zat,zam]
 obtain ⟨OUT,hOUT⟩:∃ x,arrB (leB 32 ((leN l*leN m+leN n) % LL))=x:=⟨_,rfl⟩
 rw [hOUT] at HMO iO oO sO ⊢
 have HDL2:Hid (∀ (A:Option Addr) (W:World),Bs W A l→Calls Tryz.prog 58 #[.slice A 32 32] W fun e w'=>∃ g,e=.returned (.slice (some ⟨g,0,none⟩) 34 34)∧w'.heap[g]?=some (.cells (tabI (dgN 34 (leN l:Int))) 2 (0,0))∧W.heap.size≤g∧Below W.heap.size W w'):=HDL
 have HDM2:Hid (∀ (A:Option Addr) (W:World),Bs W A m→Calls Tryz.prog 58 #[.slice A 32 32] W fun e w'=>∃ g,e=.returned (.slice (some ⟨g,0,none⟩) 34 34)∧w'.heap[g]?=some (.cells (tabI (dgN 34 (leN m:Int))) 2 (0,0))∧W.heap.size≤g∧Below W.heap.size W w'):=HDM
 have HDN2:Hid (∀ (A:Option Addr) (W:World),Bs W A n→Calls Tryz.prog 58 #[.slice A 32 32] W fun e w'=>∃ g,e=.returned (.slice (some ⟨g,0,none⟩) 34 34)∧w'.heap[g]?=some (.cells (tabI (dgN 34 (leN n:Int))) 2 (0,0))∧W.heap.size≤g∧Below W.heap.size W w'):=HDN
 clear HDL HDM HDN hOUT hval hlt hbd hlen hl hm hn
 generalize dgN 34 (leN l:Int)=X at *
 generalize dgN 34 (leN m:Int)=Y at *
 generalize dgN 34 (leN n:Int)=Z at *
 generalize zer32=z32 at *
 have hr0:RowsW ((((W.alloc (.cells (arrB l) 22)).alloc (.cells (arrB m) 22)).alloc (.cells (arrB n) 22)).alloc (.cells z32 22)) [(W.heap.size+1+1+1,z32,22),(W.heap.size+1+1,arrB n,22),(W.heap.size+1,arrB m,22),(W.heap.size,arrB l,22)]:=by
  have h:=((((RowsW.nil W).box (arrB l) 22).box (arrB m) 22).box (arrB n) 22).box z32 22
  simp only [World.size_alloc] at h
  exact h
 obtain ⟨LA,hLA⟩:∃ a,arrB l=a:=⟨_,rfl⟩
 obtain ⟨MA,hMA⟩:∃ a,arrB m=a:=⟨_,rfl⟩
 obtain ⟨NA,hNA⟩:∃ a,arrB n=a:=⟨_,rfl⟩
 have HLA:=yh hLA
 have HMA:=yh hMA
 have HNA:=yh hNA
 rw [hLA,hMA,hNA] at hr0 ⊢
 obtain ⟨W1,hW1⟩:∃ Q,(((W.alloc (.cells LA 22)).alloc (.cells MA 22)).alloc (.cells NA 22)).alloc (.cells z32 22)=Q:=⟨_,rfl⟩
 rw [hW1] at hr0
 have HB1:Hid (Below W.heap.size W W1):=yh (by rw [← hW1];exact below_al (below_al (below_al (below_al (Below.refl _ _) _) _) _) _)
 have HR1:=yh hr0
 have HW1:=yh hW1
 clear hr0 hLA hMA hNA hW1
 go_enter Tryz.func34,Tryz.ntmps34
 go_wp2_with fail
 rw [HW1.out]
 with_reducible refine (HDL2.out _ _ (bs_arr (by have h:=HR1.out.tail.tail.tail.head;rw [← HLA.out] at h;exact h))).mono ?_
 rintro e v1 ⟨gx,rfl,hx1,hgx,hb1⟩
 have HX1:=yh hx1
 have HR2:=yh (HR1.out.below hb1)
 have HB2:=yh (below_nx HB1.out hb1)
 clear hx1 hgx hb1
 go_wp2_with fail
 with_reducible refine (HDM2.out _ _ (bs_arr (by have h:=HR2.out.tail.tail.head;rw [← HMA.out] at h;exact h))).mono ?_
 rintro e v2 ⟨gy,rfl,hy2,hgy,hb2⟩
 have HY2:=yh hy2
 have HX2:Hid (v2.heap[gx]?=some (.cells (tabI X) 2 (0,0))):=yh (by rw [hb2.block _ (Array.getElem?_eq_some_iff.1 HX1.out).1];exact HX1.out)
 have HR3:=yh (HR2.out.below hb2)
 have HB3:=yh (below_nx HB2.out hb2)
 clear hy2 hgy hb2 HX1 HR2 HB2
 go_wp2_with fail
 with_reducible refine (HDN2.out _ _ (bs_arr (by have h:=HR3.out.tail.head;rw [← HNA.out] at h;exact h))).mono ?_
 rintro e v3 ⟨gz,rfl,hz3,hgz,hb3⟩
 have HI:Hid (MuI W v3 (W.heap.size+1+1+1) gx gy gz X Y (mulZ X Y Z 0) z32):=yh (by
  have a:=(Array.getElem?_eq_some_iff.1 HX2.out).1
  have b:=(Array.getElem?_eq_some_iff.1 HY2.out).1
  have c:=(Array.getElem?_eq_some_iff.1 HR3.out.head).1
  have d:=HB3.out.size
  exact ⟨(HR3.out.below hb3).head,by rw [hb3.block _ a];exact HX2.out,by rw [hb3.block _ b];exact HY2.out,hz3,by omega,by omega,by omega,by omega,below_nx HB3.out hb3⟩)
 have HGG:Hid (W.heap.size≤W.heap.size+1+1+1):=yh (by omega)
 clear hz3 hgz hb3 HX2 HY2 HR3 HB3 HDL2 HDM2 HDN2
 go_wp2_with fail
 obtain ⟨g,hg⟩:∃ g,W.heap.size+1+1+1=g:=⟨_,rfl⟩
 rw [hg] at HI HGG
 rw [hg]
 clear hg
 go_loopw [10] (fun i wr=>∃ a:Nat,a≤16∧i=.int .i64 (a:Int)∧Hid (MuI W wr g gx gy gz X Y (mulZ X Y Z a) z32)) (fun i _=>16-(intOf i).toNat)
 case atStart=>exact ⟨0,by omega,rfl,HI⟩
 case round =>
  clear HI
  obtain ⟨a,ha,rfl,HI⟩:=hrel
  by_cases hlt:a<16
  ·have e7:decide ((a:Int)<16)=true:=decide_eq_true (by omega)
   obtain ⟨xv,hxv⟩:∃ x,gI X a=x:=⟨_,rfl⟩
   have HI0:Hid (MuI W wr g gx gy gz X Y (zaT X Y (mulZ X Y Z a) a 0) z32):=HI
   have HA16:=yh hlt
   clear HI
   go_wp2_with fail
   go_loopw [11] (fun i wr=>∃ k:Nat,k≤16∧i=.int .i64 (k:Int)∧Hid (MuI W wr g gx gy gz X Y (zaT X Y (mulZ X Y Z a) a k) z32)) (fun i _=>16-(intOf i).toNat)
   case atStart=>exact ⟨0,by omega,rfl,HI0⟩
   case round =>
    clear HI0
    obtain ⟨k,hk,rfl,HI0⟩:=hrel
    by_cases hlt2:k<16
    ·have hml:(zaT X Y (mulZ X Y Z a) a k).length=34:=by rw [zbv,mulZ_len,HZL.out]
     have hbz:=mulRow34_bd X Y (mulZ X Y Z a) a _ HXP.out HYP.out (by rw [mulZ_len,HZL.out]) HA16.out (HZB.out a (by omega)) k (by omega) (a+k)
     have hxp:=HXP.out a
     have hyp:=HYP.out k
     obtain ⟨yv,hyv⟩:∃ y,gI Y k=y:=⟨_,rfl⟩
     obtain ⟨zv,hzv⟩:∃ z,gI (zaT X Y (mulZ X Y Z a) a k) (a+k)=z:=⟨_,rfl⟩
     rw [hxv] at hxp
     rw [hyv] at hyp
     rw [hzv] at hbz
     have hps:=mul_small hxp hyp
     have hnx:zaT X Y (mulZ X Y Z a) a (k+1)=(zaT X Y (mulZ X Y Z a) a k).set (a+k) (zv+xv*yv):=by rw [zaT,mulAt,hzv,hxv,hyv]
     obtain ⟨pv,hpv⟩:∃ p,xv*yv=p:=⟨_,rfl⟩
     rw [hpv] at hps hnx
     have cx:wr.cell? ⟨gx,a,none⟩=some (.int .i64 xv):=by rw [cell_of_row _ _ _ _ _ _ HI0.out.xx,zau _ _ (by rw [HXL.out];omega),hxv]
     have cy:wr.cell? ⟨gy,k,none⟩=some (.int .i64 yv):=by rw [cell_of_row _ _ _ _ _ _ HI0.out.yy,zau _ _ (by rw [HYL.out];omega),hyv]
     have cz:wr.cell? ⟨gz,a+k,none⟩=some (.int .i64 zv):=by rw [cell_of_row _ _ _ _ _ _ HI0.out.zz,zau _ _ (by rw [hml];omega),hzv]
     have fx:wr.frozen? ⟨gz,a+k,none⟩=false:=by have:=HI0.out.zz;simp [World.frozen?,this]
     have HI2:Hid (MuI W (wr.drew.setCell ⟨gz,a+k,none⟩ (.int .i64 (zv+pv))) g gx gy gz X Y (zaT X Y (mulZ X Y Z a) a (k+1)) z32):=yh (by rw [hnx];exact HI0.out.drew.cell _ _)
     have e1:(a:Int)+(k:Int)=((a+k:Nat):Int):=by omega
     have e2:IntKind.i64.wrap ((a+k:Nat):Int)=((a+k:Nat):Int):=by rw [IntKind.wrap_i64];omega
     have e3:IntKind.i64.wrap pv=pv:=by rw [IntKind.wrap_i64];omega
     have e4:IntKind.i64.wrap (zv+pv)=zv+pv:=by rw [IntKind.wrap_i64];omega
     obtain ⟨ak,hak⟩:∃ x,a+k=x:=⟨_,rfl⟩
     rw [hak] at e1 e2 cz fx HI2
     have b1:0≤(a:Int):=by omega
     have b2:(a:Int)<16:=by have:=HA16.out;omega
     have b3:0≤(k:Int):=by omega
     have b4:(k:Int)<16:=by omega
     have b5:0≤(ak:Int):=by omega
     have b6:(ak:Int)<34:=by omega
     have b7:(a:Int)<34:=by omega
     have b9:(k:Int)<34:=by omega
     have e8:decide ((k:Int)<16)=true:=decide_eq_true (by omega)
     clear HI0 hnx hak hzv hyv hk hml hlt ha
     go_wp2_with fail
     refine wp_region_still_tail 20 (by kernel_rfl) (by kernel_rfl) ?_
     simp only [List.take_succ_cons,List.take_zero,List.drop_succ_cons,List.drop_zero]
     iterate 20 still_step
     refine wpStill_nil ?_
     go_wp2_with fail
     go_roundw
     case rel=>exact ⟨k+1,by omega,by go_num,HI2⟩
     case measure=>simp [intOf];omega
    ·have e8:decide ((k:Int)<16)=false:=decide_eq_false (by omega)
     have hk16:k=16:=by omega
     rw [hk16] at HI0
     have HI2:Hid (MuI W wr g gx gy gz X Y (mulZ X Y Z (a+1)) z32):=HI0
     have b1:0≤(a:Int):=by omega
     have b2:(a:Int)<16:=by have:=HA16.out;omega
     clear HI0 hk16 hlt2 hk
     go_wp2_with fail
     go_roundw
     case rel=>exact ⟨a+1,by omega,by go_num,HI2⟩
     case measure=>simp [intOf];omega
  ·have e7:decide ((a:Int)<16)=false:=decide_eq_false (by omega)
   have ha16:a=16:=by omega
   rw [ha16] at HI
   clear ha16 hlt ha
   have hzrow:=HI.out.zz
   go_wp2_with fail
   with_reducible refine (HCA.out _ _ hzrow).mono ?_
   rintro e v3 ⟨rfl,hc3⟩
   have HRW:=yh hc3.row
   have HI3:=yh (HI.out.turned hc3.only)
   clear hc3 hzrow HI
   go_wp2_with fail
   with_reducible refine (HMO.out _ _ HRW.out).mono ?_
   rintro e v4 ⟨rfl,hb4⟩
   have hr4:v4.heap[g]?=some (.cells z32 22 (0,0)):=by rw [hb4.block _ (Array.getElem?_eq_some_iff.1 HI3.out.1).1];exact HI3.out.1
   have HE:Hid (Below W.heap.size W (v4.setRow g OUT)):=yh (zab (below_nx HI3.out.2 hb4) HGG.out)
   clear hb4
   go_wp2_with (refine yj OUT hr4 iO sO oO ?_)
   (try simp only [Exit.inBlock,Exit.then])
   refine bodyPost_ret (results_cell_row rfl _ _ g _ OUT _ _ rfl (setRow_heap _ _ _ _ _ _ hr4) Tryz.underlying22 rfl iO) rfl ?_
   exact ⟨rfl,HE.out⟩
theorem zbk (seed:List UInt8):(saltB seed).length=32:=by unfold saltB;rw [List.length_drop,zbE]
theorem za1 (seed:List UInt8):(secB seed).length=32:=by unfold secB clampB;rw [List.length_set,List.length_set,List.length_take,zbE];rfl
theorem modLL_E (x:Nat):x % LL<256^32:=Nat.lt_trans (Nat.mod_lt _ LL_pos) LL_256
theorem Ob.rowN {E:TypeId} {w:World} {base n:Nat} {v:Value} {l:List UInt8} (h:Ob E w base v l) (hn:l.length=n) (hp:0<n) :
  ∃ g c cur,v=.slice (some ⟨g,0,none⟩) n c∧base≤g∧w.heap[g]?=some (.cells cur E (0,0))∧∀ j,j<n→cur[j]?=some (.int .u8 ((l.getD j 0).toNat:Int)):=by
 subst hn
 have hk:=h
 rcases h.2 with ⟨rfl,h0⟩ | ⟨g,cap,cur,rfl,hb,hg,hnc,hcm,hcs,htake⟩
 ·omega
 ·refine ⟨g,cap,cur,rfl,hb,hg,fun j hj=>?_⟩
  have:=World.ownsRow.cellAt hk j (by omega)
  rw [cell_of_row _ _ _ _ _ _ hg] at this
  rw [this,List.getElem?_map,List.getElem?_eq_getElem hj]
  simp [bval,List.getD,List.getElem?_eq_getElem hj]
theorem srow_bs {W:World} {g n:Nat} {cur:Array Value} {E:TypeId} {l:List UInt8} (h:W.heap[g]?=some (.cells cur E (0,0))) (hc:∀ j,j<n→cur[j]?=some (.int .u8 ((l.getD j 0).toNat:Int))) (hl:l.length=n):Bs W (some ⟨g,0,none⟩) l:=fun _=>⟨g,0,rfl,fun j hj=>by rw [Nat.zero_add,cell_of_row _ _ _ _ _ _ h,hc j (by omega)]⟩
theorem byt_bs {W:World} {g x:Nat} {t:TypeId} (h:W.heap[g]?=some (.cells (bytT x) t (0,0))):Bs W (some ⟨g,0,none⟩) (leB 32 x):=row_bs h
theorem rpublic_any (seed:List UInt8) (hs:seed.length=32) (w:World):Calls Tryz.prog 15 #[.agg (arrB seed)] w (RetV w (.agg (arrB (pubB seed)))):=by
 have HSE:=yh hs
 clear hs
 have hz32:=zas
 have hz64:=zbm
 have hzP:=zbq
 have HR0:=yh (((RowsW.nil w).box (arrB seed) 22).box zag 22)
 have HB0:=yh (zaf (zaf (Below.refl w.heap.size w) (arrB seed) 22) zag 22)
 rw [World.size_alloc] at HR0
 go_enter Tryz.func15,Tryz.ntmps15
 go_upto_region 1 with fail
 obtain ⟨W0,hW0⟩:∃ W,((w.alloc (.cells (arrB seed) 22)).alloc (.cells zag 22))=W:=⟨_,rfl⟩
 obtain ⟨g0,hg0⟩:∃ g,w.heap.size=g:=⟨_,rfl⟩
 rw [hW0] at HR0 HB0
 rw [hg0] at HR0
 rw [hW0,hg0]
 have HG0:=yh hg0
 clear hW0 hg0
 have l1:=HR0.out.tail.head
 go_wp2_with (refine yi l1 Tryz.underlying22 (zah HSE.out) ?_)
 have hltq2:=HR0.out.lt
 with_reducible refine (rparts_any seed HSE.out _).mono ?_
 rintro e vq2 ⟨xq2,rfl,hoq2,hbq2⟩
 obtain ⟨gq2,kq2,cq2,rfl,hgeq2,hrowq2,hcurq2⟩:=hoq2.rowN (zbk seed) (by decide)
 have HRq2:Hid (RowsW vq2 [(gq2,cq2,5),((g0+1),zag,22),(g0,(arrB seed),22)]):=yh ⟨hrowq2,HR0.out.below hbq2⟩
 have HBq2:=yh (zaa HB0.out hbq2)
 have CUq2:=yh hcurq2
 have HGq2:=yh (Nat.le_trans HB0.out.size hgeq2)
 have NEq2_0:Hid (g0≠gq2):=yh (by have h:=hltq2 (g0,(arrB seed),22) (by simp);have:=hgeq2;simp only at h;omega)
 have NEq2_1:Hid ((g0+1)≠gq2):=yh (by have h:=hltq2 ((g0+1),zag,22) (by simp);have:=hgeq2;simp only at h;omega)
 clear hltq2 hoq2 hbq2 hgeq2 hrowq2 hcurq2
 have h0q3:(vq2.alloc (.cells zag 22)).heap[vq2.heap.size]?=some (.cells zag 22 (0,0)):=heap_alloc_new _ _
 have HRq3:=yh (HRq2.out.new zag (arrB (secB seed)) 22)
 have HBq3:=yh (zao HBq2.out zag (arrB (secB seed)) 22)
 have HNq3:=yh HRq2.out.ne
 have HGq3:=yh HBq2.out.size
 go_upto_region 2 with (refine yj (arrB (secB seed)) h0q3 (zah (za1 seed)) (zaz (za1 seed)) (zaq _) ?_)
 obtain ⟨Wq3,hWq3⟩:∃ W,(vq2.alloc (.cells zag 22)).setRow vq2.heap.size (arrB (secB seed))=W:=⟨_,rfl⟩
 obtain ⟨gq3,hgq3⟩:∃ g,vq2.heap.size=g:=⟨_,rfl⟩
 rw [hWq3,hgq3] at HRq3
 rw [hWq3] at HBq3
 rw [hgq3] at HNq3 HGq3
 rw [hWq3,hgq3]
 clear hWq3 hgq3 h0q3
 have NEq3_0:Hid (g0≠gq3):=yh (HNq3.out (g0,(arrB seed),22) (by simp))
 have NEq3_1:Hid ((g0+1)≠gq3):=yh (HNq3.out ((g0+1),zag,22) (by simp))
 have NEq3_2:Hid (gq2≠gq3):=yh (HNq3.out (gq2,cq2,5) (by simp))
 refine wp_region_noPanic ?_
 refine zai (S:=fun W=>Below Wq3.heap.size Wq3 W) 4 (by kernel_rfl) ⟨by kernel_rfl,by kernel_rfl,by kernel_rfl,by kernel_rfl⟩ (by exact (Below.refl _ _).drew) (fun hT inv hS=>?_)
 refine' yT 0 hT inv hS (fun inv=>?_) (hy:=fun W hSW=>zac rfl rfl (HRq3.out.below hSW).head Tryz.underlying22 rfl (zah (za1 seed)))
 refine xT 1 inv (fun K hK=>?_)
 go_simp
 with_reducible refine ((fun W=>rbaseN W) _).mono ?_
 rintro e vq4 ⟨cq4,rfl,rq4,hbq4⟩
 have Rq4:=yh rq4
 clear rq4
 have kbq4:=zaa hS hbq4
 clear hS hbq4
 refine hK.out _ _ (by exact kbq4) (fun inv hS=>?_)
 clear hK K
 refine xT 2 inv (fun K hK=>?_)
 go_simp
 obtain ⟨p5,Hp5⟩:=yx (α:=PtD) (pmul (leN (secB seed)) F25519.base)
 with_reducible refine ((rmult_any (za1 seed) Rq4.out) _).mono ?_
 rintro e vq6 ⟨cq6,rfl,rq6,hbq6⟩
 rw [Hp5.out] at rq6
 have Rq6:=yh rq6
 clear rq6
 have kbq6:=zaa kbq4 hbq6
 clear hS hbq6
 refine hK.out _ _ (by exact kbq6) (fun inv hS=>?_)
 clear hK K
 refine xT 3 inv (fun K hK=>?_)
 go_simp
 with_reducible refine ((rencode_any Rq6.out) _).mono ?_
 rintro e vq7 ⟨rfl,hbq7⟩
 have kbq7:=zaa kbq6 hbq7
 clear hS hbq7
 refine hK.out _ _ (by exact kbq7) (fun inv hS=>?_)
 clear hK K
 refine zaR (by kernel_rfl) ?_
 simp only [List.drop_succ_cons,List.drop_zero]
 clear hS
 (try simp only [Act.put])
 have HRq8:=yh (HRq3.out.below kbq7)
 have HBq8:=yh (zaa HBq3.out kbq7)
 have lsq9:=HRq8.out.tail.tail.head
 have HRq9:Hid (RowsW (vq7.setRow (g0+1) (bytT (F25519.encN p5))) [(gq3,(arrB (secB seed)),22),(gq2,cq2,5),((g0+1),(bytT (F25519.encN p5)),22),(g0,(arrB seed),22)]):=yh ⟨(by rw [setRow_other _ _ _ _ (Ne.symm NEq3_1.out)];exact HRq8.out.head),(by rw [setRow_other _ _ _ _ (Ne.symm NEq2_1.out)];exact HRq8.out.tail.head),setRow_heap _ _ _ _ _ _ lsq9,(by rw [setRow_other _ _ _ _ (by omega)];exact HRq8.out.tail.tail.tail.head),trivial⟩
 have HBq9:=yh (zab (g:=(g0+1)) (cs:=(bytT (F25519.encN p5))) HBq8.out (by have:=HG0.out;omega))
 go_wp2_with (refine yj (bytT (F25519.encN p5)) lsq9 (zaD _) (zaX _) (zbi _) ?_)
 obtain ⟨Wq9,hWq9⟩:∃ W,vq7.setRow (g0+1) (bytT (F25519.encN p5))=W:=⟨_,rfl⟩
 rw [hWq9] at HRq9 HBq9
 (try rw [hWq9])
 clear hWq9 lsq9
 refine NoPanic.normal ?_
 go_wp2_with fail
 (try simp only [Exit.inBlock,Exit.then])
 refine bodyPost_ret (results_cell_row rfl _ _ (g0+1) _ (bytT (F25519.encN p5)) _ _ rfl HRq9.out.tail.tail.head Tryz.underlying22 rfl (zaD _)) rfl ?_
 exact ⟨by rw [show arrB (pubB seed)=(bytT (F25519.encN p5)) from by unfold pubB encP secP;rw [Hp5.out];rfl],HBq9.out⟩
def sigR (seed c sum:List UInt8):List UInt8:=if 255<c.length then List.replicate 64 0 else signB seed c sum
theorem prefB_le {c:List UInt8} (h:c.length≤1000):(prefB c).length≤1100:=by
 unfold prefB
 split
 ·exact Nat.zero_le _
 ·simp [domB];omega
theorem run_emp64 {a:Act} {o:Oper} (ho:o.op=.build 24 #[]) (W:World):(execOp (Act.eval a) o).run Tryz.prog W=.ok (.value (.agg zer64)) W:=by
 unfold execOp
 simp only [ho]
 kernel_rfl
def widE (l m:List UInt8) (k:Nat):List UInt8:=(List.range 64).map fun i=>if i<32 then (if i<k then l.getD i 0 else 0) else (if i-32<k then m.getD (i-32) 0 else 0)
theorem zbH (l m k):(widE l m k).length=64:=by simp [widE]
theorem widE_get (l m:List UInt8) (k i:Nat) (h:i<64):(widE l m k).getD i 0=if i<32 then (if i<k then l.getD i 0 else 0) else (if i-32<k then m.getD (i-32) 0 else 0):=by
 simp [widE,List.getD,h]
theorem ext_getE {l m:List UInt8} (h:l.length=m.length) (g:∀ i,i<l.length→l.getD i 0=m.getD i 0):l=m:=by
 apply List.ext_getElem h
 intro i h1 h2
 have:=g i h1
 simpa [List.getD,h1,h2] using this
theorem widE_nil (l m):widE l m 0=List.replicate 64 0:=by
 refine ext_getE (by rw [zbH];simp) fun i hi=>?_
 rw [zbH] at hi
 rw [widE_get _ _ _ _ hi]
 have e:(List.replicate 64 (0:UInt8)).getD i 0=0:=by rw [List.getD_eq_getElem?_getD,List.getElem?_replicate,if_pos hi];rfl
 rw [e]
 simp only [Nat.not_lt_zero,if_false,ite_self]
theorem widE_zero (l m):arrB (widE l m 0)=zer64:=by rw [widE_nil];rfl
theorem set_getE (l:List UInt8) (i j:Nat) (x:UInt8) (hi:i<l.length):(l.set i x).getD j 0=if i=j then x else l.getD j 0:=by
 simp only [List.getD,List.getElem?_set]
 by_cases h:i=j
 ·subst h;simp [hi]
 ·simp [h]
theorem widE_set (l m:List UInt8) (k:Nat) (h:k<32):((widE l m k).set k (l.getD k 0)).set (32+k) (m.getD k 0)=widE l m (k+1):=by
 refine ext_getE (by rw [List.length_set,List.length_set,zbH,zbH]) fun i hi=>?_
 rw [List.length_set,List.length_set,zbH] at hi
 rw [set_getE _ _ _ _ (by rw [List.length_set,zbH];omega),set_getE _ _ _ _ (by rw [zbH];omega),widE_get _ _ _ _ hi,widE_get _ _ _ _ hi]
 by_cases h1:32+k=i
 ·rw [if_pos h1,if_neg (by omega),if_pos (by omega),show i-32=k by omega]
 ·rw [if_neg h1]
  by_cases h2:k=i
  ·rw [if_pos h2,if_pos (by omega),if_pos (by omega),h2]
  ·rw [if_neg h2]
   by_cases h3:i<32
   ·rw [if_pos h3,if_pos h3]
    by_cases h4:i<k
    ·rw [if_pos h4,if_pos (by omega)]
    ·rw [if_neg h4,if_neg (by omega)]
   ·rw [if_neg h3,if_neg h3]
    by_cases h4:i-32<k
    ·rw [if_pos h4,if_pos (by omega)]
    ·rw [if_neg h4,if_neg (by omega)]
theorem widE_end {l m:List UInt8} (hl:l.length=32) (hm:m.length=32):widE l m 32=l++m:=by
 refine ext_getE (by rw [zbH,List.length_append,hl,hm]) fun i hi=>?_
 rw [zbH] at hi
 rw [widE_get _ _ _ _ hi]
 by_cases h:i<32
 ·rw [if_pos h,if_pos h];simp [List.getD,List.getElem?_append_left (show i<l.length by omega)]
 ·rw [if_neg h,if_pos (by omega)];simp [List.getD,List.getElem?_append_right (show l.length≤i by omega),hl]
abbrev EdPrefixC:Prop:=∀ (C:Option Addr) (c:List UInt8) (n k:Nat),c.length=n→c.length≤1000→∀ W:World,Bs W C c→Calls Tryz.prog 12 #[.slice C n k] W (RetOb 5 W (prefB c))
abbrev EdPublicC:Prop:=∀ l:List UInt8,l.length=32→∀ W:World,Calls Tryz.prog 14 #[.agg (arrB l)] W (RetV W (.agg (arrB (pubB l))))
abbrev EdSignC:Prop:=∀ seed:List UInt8,seed.length=32→∀ (C:Option Addr) (c:List UInt8) (n k:Nat),c.length=n→c.length≤1000→∀ sum:List UInt8,sum.length=64→∀ W:World,Bs W C c →
 Calls Tryz.prog 10 #[.agg (arrB seed),.slice C n k,.agg (arrB sum)] W (RetV W (.tuple #[.agg (arrB (sigR seed c sum)),.int .i64 (if 255<c.length then 1 else 0)]))
abbrev EdVerifyC:Prop:=∀ pub:List UInt8,pub.length=32→∀ (C:Option Addr) (c:List UInt8) (n k:Nat),c.length=n→c.length≤1000→∀ sum:List UInt8,sum.length=64→∀ sign:List UInt8,sign.length=64→∀ W:World,Bs W C c →
 Calls Tryz.prog 17 #[.agg (arrB pub),.slice C n k,.agg (arrB sum),.agg (arrB sign)] W (RetV W (.bool (verB pub c sum (sign.take 32) (sign.drop 32))))
structure EdC:Prop where
 prefix_:EdPrefixC
 pub:EdPublicC
 sign:EdSignC
 verify:EdVerifyC
theorem sigR_len (seed c sum:List UInt8):(sigR seed c sum).length=64:=by
 unfold sigR signB
 split
 ·simp
 ·rw [List.length_append,oneB_len,zam]
theorem sigR_take {seed c sum:List UInt8} (hc:¬ 255<c.length):(sigR seed c sum).take 32=oneB seed c sum:=by
 unfold sigR signB
 rw [if_neg hc,List.take_append_of_le_length (by rw [oneB_len];exact Nat.le_refl _),List.take_of_length_le (by rw [oneB_len];exact Nat.le_refl _)]
theorem sigR_drop {seed c sum:List UInt8} (hc:¬ 255<c.length):(sigR seed c sum).drop 32=leB 32 (twoN seed c sum):=by
 unfold sigR signB
 rw [if_neg hc,List.drop_append_of_le_length (by rw [oneB_len];exact Nat.le_refl _),List.drop_of_length_le (by rw [oneB_len];exact Nat.le_refl _)]
 rfl
theorem ver_sig {seed c sum:List UInt8} (hc:¬ 255<c.length):verB (pubB seed) c sum ((sigR seed c sum).take 32) ((sigR seed c sum).drop 32)=true:=by
 rw [sigR_take hc,sigR_drop hc];exact ver_sign hc
theorem num14_any (n:Int) (w:World):Calls Tryz.prog 16 #[.int .i64 n] w (RetV w (.int .i64 n)):=by
 go_enter Tryz.func16,Tryz.ntmps16
 go_wp2
 go_ret
 exact ⟨rfl,Below.refl _ _⟩
theorem eqS {l m:List UInt8} (hl:l.length=64) (hm:m.length=64) (u:World):(binOp .eql 24 (.agg (arrB l)) (.agg (arrB m))).run Tryz.prog u=.ok (.bool (decide (l=m))) u :=
 eqB_run (P:=Tryz.prog) 24 5 64 l m hl hm Tryz.underlying24 Tryz.underlying5 (fun w=>by kernel_rfl) (fun w=>by kernel_rfl) u
theorem guardS:Tryz.prog.eqGuardType Tryz.prog.depth 24=false:=by kernel_rfl
def oneS:List UInt8:=1 :: List.replicate 31 0
def twoS:List UInt8:=2 :: List.replicate 63 0
theorem run_oneS (W:World):(Instr.build 22 #[(0,.int .u8 1)]).run Tryz.prog W=.ok (.agg (arrB oneS)) W:=by kernel_rfl
theorem run_twoS (W:World):(Instr.build 24 #[(0,.int .u8 2)]).run Tryz.prog W=.ok (.agg (arrB twoS)) W:=by kernel_rfl
theorem run_bld {a:Act} {o:Oper} {t:TypeId} {x:Int} {l:List UInt8} (hb:∀ W:World,(Instr.build t #[(0,.int .u8 x)]).run Tryz.prog W=.ok (.agg (arrB l)) W) (ho:o.op=.build t #[(0,.const (.int .u8 x))]) (W:World):(execOp (Act.eval a) o).run Tryz.prog W=.ok (.value (.agg (arrB l))) W:=by
 have h:=hb W
 unfold execOp
 simp only [ho]
 simp [Act.eval,h]
theorem lists14:∃ a b:List UInt8,a.length=32∧b.length=64∧(∀ W:World,(Instr.build 22 #[(0,.int .u8 1)]).run Tryz.prog W=.ok (.agg (arrB a)) W)∧(∀ W:World,(Instr.build 24 #[(0,.int .u8 2)]).run Tryz.prog W=.ok (.agg (arrB b)) W):=⟨oneS,twoS,rfl,rfl,run_oneS,run_twoS⟩
theorem alive14_any (D:EdC)  (w:World):Calls Tryz.prog 9 #[] w fun e w'=>e=.returned (.bool true)∧Below w.heap.size w w':=by
 have hz32:=zas
 have hz64:=zbm
 obtain ⟨a0,b0,ha0,hb0,hba,hbb⟩:=lists14
 have HA0:=yh ha0
 have HB0b:=yh hb0
 have HBA:=yh hba
 have HBB:=yh hbb
 clear ha0 hb0 hba hbb
 have HR0:=yh (RowsW.nil w)
 have HB0:=yh (Below.refl w.heap.size w)
 go_enter Tryz.func9,Tryz.ntmps9
 go_wp2_with (first
   | (refine zaO (o:=⟨some 4,_,_,_,_,_⟩) rfl (.agg (arrB a0)) (run_bld HBA.out rfl _) ?_)
   | (refine zaO (o:=⟨some 5,_,_,_,_,_⟩) rfl (.agg (arrB b0)) (run_bld HBB.out rfl _) ?_))
 obtain ⟨y1,hy1⟩:∃ y_:List UInt8,sigR a0 [] b0=y_:=⟨_,rfl⟩
 have Hy1:=yh hy1
 have HNy1:Hid (y1.length=64):=yh (by rw [← hy1];exact sigR_len _ _ _)
 clear hy1
 have o6:∀ W:World,Bs W none []→Calls Tryz.prog 10 #[.agg (arrB a0),.slice none 0 0,.agg (arrB b0)] W (RetV W (.tuple #[.agg (arrB y1),.int .i64 0])):=fun W h=>by have h:=D.sign a0 HA0.out none [] 0 0 rfl (by simp) b0 HB0b.out W h;rw [Hy1.out,(if_neg (by decide):(if 255<([]:List UInt8).length then (1:Int) else 0)=0)] at h;exact h
 with_reducible refine ((fun W=>o6 W (Bs.nil_ _ _)) _).mono ?_
 rintro e vq2 ⟨rfl,hbq2⟩
 have HRq2:=yh (HR0.out.below hbq2)
 have HBq2:=yh (zaa HB0.out hbq2)
 clear hbq2
 have h0q3:(vq2.alloc (.cells zer64 24)).heap[vq2.heap.size]?=some (.cells zer64 24 (0,0)):=heap_alloc_new _ _
 have HRq3:=yh (HRq2.out.new zer64 (arrB y1) 24)
 have HBq3:=yh (zao HBq2.out zer64 (arrB y1) 24)
 have HNq3:=yh HRq2.out.ne
 have HGq3:=yh HBq2.out.size
 go_upto_region 2 with (refine yj (arrB y1) h0q3 (zav HNy1.out) (zbu HNy1.out) (zaq _) ?_)
 obtain ⟨Wq3,hWq3⟩:∃ W,(vq2.alloc (.cells zer64 24)).setRow vq2.heap.size (arrB y1)=W:=⟨_,rfl⟩
 obtain ⟨gq3,hgq3⟩:∃ g,vq2.heap.size=g:=⟨_,rfl⟩
 rw [hWq3,hgq3] at HRq3
 rw [hWq3] at HBq3
 rw [hgq3] at HNq3 HGq3
 rw [hWq3,hgq3]
 clear hWq3 hgq3 h0q3
 refine wp_region_noPanic ?_
 refine wp_region_held_drew (S:=fun W=>Below Wq3.heap.size Wq3 W) (by kernel_rfl) (by exact (Below.refl _ _).drew) (fun hS=>?_)
 refine' yk 0  hS ?_
 refine xk 1  (fun K hK=>?_)
 go_simp
 with_reducible refine ((fun W=>num14_any 0 W) _).mono ?_
 rintro e vq4 ⟨rfl,hbq4⟩
 have kbq4:=zaa hS hbq4
 clear hS hbq4
 refine hK.out _ _ (by exact kbq4) (fun hS=>?_)
 clear hK K
 refine' yk 2  hS ?_
 refine' yk 3  hS ?_
 refine' yk 4  hS ?_ (hy:=fun W hSW=>run_bld HBA.out rfl W)
 refine' yk 6  hS ?_ (hy:=fun W hSW=>run_bld HBB.out rfl W)
 refine' yk 7  hS ?_ (hy:=fun W hSW=>zac rfl rfl (HRq3.out.below hSW).head Tryz.underlying24 rfl (zav HNy1.out))
 refine xk 5  (fun K hK=>?_)
 go_simp
 obtain ⟨y5,hy5⟩:∃ y_:List UInt8,pubB a0=y_:=⟨_,rfl⟩
 have Hy5:=yh hy5
 have HNy5:Hid (y5.length=32):=yh (by rw [← hy5];exact zbg _)
 clear hy5
 have kq6:=fun W:World=>(fun W=>D.pub a0 HA0.out W) W
 rw [Hy5.out] at kq6
 have Kq6:=yh kq6
 clear kq6
 with_reducible refine (Kq6.out _).mono ?_
 rintro e vq6 ⟨rfl,hbq6⟩
 have kbq6:=zaa kbq4 hbq6
 clear hS hbq6
 refine hK.out _ _ (by exact kbq6) (fun hS=>?_)
 clear hK K
 refine xk 8  (fun K hK=>?_)
 go_simp
 have Ht7:Hid (verB y5 [] b0 (y1.take 32) (y1.drop 32)=true):=yh (by rw [← Hy5.out,← Hy1.out];exact ver_sig (by decide))
 have o17:∀ W:World,Bs W none []→Calls Tryz.prog 17 #[.agg (arrB y5),.slice none 0 0,.agg (arrB b0),.agg (arrB y1)] W (RetV W (.bool true)):=fun W h=>by have h:=D.verify y5 HNy5.out none [] 0 0 rfl (by simp) b0 HB0b.out y1 HNy1.out W h;rw [Ht7.out] at h;exact h
 with_reducible refine ((fun W=>o17 W (Bs.nil_ _ _)) _).mono ?_
 rintro e vq8 ⟨rfl,hbq8⟩
 have kbq8:=zaa kbq6 hbq8
 clear hS hbq8
 refine hK.out _ _ (by exact kbq8) (fun hS=>?_)
 clear hK K
 refine' yk 9  hS ?_
 refine' yk 10  hS ?_
 refine wpAnyH_done (by kernel_rfl) ?_ _
 refine NoPanic.normal ?_
 clear hS
 (try simp only [Act.put])
 have HRq9:=yh (HRq3.out.below kbq8)
 have HBq9:=yh (zaa HBq3.out kbq8)
 go_wp2_with fail
 go_ret
 exact ⟨rfl,HBq9.out⟩
theorem rsign_any (seed:List UInt8) (hs:seed.length=32) (C:Option Addr) (c:List UInt8) (n k:Nat) (hn:c.length=n) (hcl:c.length≤1000) (sum:List UInt8) (hsu:sum.length=64) (w:World) (hc:Bs w C c) :
  Calls Tryz.prog 11 #[.agg (arrB seed),.slice C n k,.agg (arrB sum)] w (RetV w (.tuple #[.agg (arrB (sigR seed c sum)),.bool (!decide (255<c.length))])):=by
 have HSE:=yh hs
 have HSU:=yh hsu
 clear hs hsu
 have hz32:=zas
 have hz64:=zbm
 have hzP:=zbq
 have HC:=yh hc
 have HCN:=yh hn
 have HCL:=yh hcl
 clear hc hn hcl
 obtain ⟨pn,hpn⟩:∃ y_,(prefB c).length=y_:=⟨_,rfl⟩
 have HPN:=yh hpn
 have HPL:Hid ((prefB c).length≤1100):=yh (prefB_le HCL.out)
 clear hpn
 have HR0:=yh ((((RowsW.nil w).box (arrB seed) 22).box (arrB sum) 24).box zer64 24)
 have HB0:=yh (zaf (zaf (zaf (Below.refl w.heap.size w) (arrB seed) 22) (arrB sum) 24) zer64 24)
 rw [World.size_alloc,World.size_alloc] at HR0
 go_enter Tryz.func11,Tryz.ntmps11
 go_upto_region 1 with fail
 obtain ⟨W0,hW0⟩:∃ W,(((w.alloc (.cells (arrB seed) 22)).alloc (.cells (arrB sum) 24)).alloc (.cells zer64 24))=W:=⟨_,rfl⟩
 obtain ⟨g0,hg0⟩:∃ g,w.heap.size=g:=⟨_,rfl⟩
 rw [hW0] at HR0 HB0
 rw [hg0] at HR0
 rw [hW0,hg0]
 have HG0:=yh hg0
 clear hW0 hg0
 by_cases hb:255<n
 ·have d1:decide ((255:Int)<(n:Int))=true:=decide_eq_true (by omega)
  have HBC:Hid (255<c.length):=yh (by rw [HCN.out];exact hb)
  clear hb
  go_upto_region 2 with fail
  have lsq1:=HR0.out.head
  have HRq1:Hid (RowsW (W0.setRow (g0+1+1) zer64) [((g0+1+1),zer64,24),((g0+1),(arrB sum),24),(g0,(arrB seed),22)]):=yh ⟨setRow_heap _ _ _ _ _ _ lsq1,(by rw [setRow_other _ _ _ _ (by omega)];exact HR0.out.tail.head),(by rw [setRow_other _ _ _ _ (by omega)];exact HR0.out.tail.tail.head),trivial⟩
  have HBq1:=yh (zab (g:=(g0+1+1)) (cs:=zer64) HB0.out (by have:=HG0.out;omega))
  go_wp2_with (first
    | (refine zaO (o:=⟨some 20,_,_,_,_,_⟩) rfl (.agg zer64) (run_emp64 rfl _) ?_)
    | (refine yj zer64 lsq1 (zav (by simp)) rfl (zaq _) ?_))
  obtain ⟨Wq1,hWq1⟩:∃ W,W0.setRow (g0+1+1) zer64=W:=⟨_,rfl⟩
  rw [hWq1] at HRq1 HBq1
  (try rw [hWq1])
  clear hWq1 lsq1
  (try simp only [Exit.inBlock,Exit.then])
  refine bodyPost_ret (zaE rfl _ _ (g0+1+1) _ zer64 _ _ (.bool false) rfl rfl HRq1.out.head Tryz.underlying24 rfl (zav (by simp))) rfl ?_
  exact ⟨by unfold sigR;rw [if_pos HBC.out,decide_eq_true HBC.out];rfl,HBq1.out⟩
 ·have d1:decide ((255:Int)<(n:Int))=false:=decide_eq_false (by omega)
  have HBC:Hid (¬ 255<c.length):=yh (by rw [HCN.out];exact hb)
  clear hb
  go_upto_region 3 with fail
  have l2:=HR0.out.tail.tail.head
  go_wp2_with (refine yi l2 Tryz.underlying22 (zah HSE.out) ?_)
  have hltq3:=HR0.out.lt
  with_reducible refine (rparts_any seed HSE.out _).mono ?_
  rintro e vq3 ⟨xq3,rfl,hoq3,hbq3⟩
  obtain ⟨gq3,kq3,cq3,rfl,hgeq3,hrowq3,hcurq3⟩:=hoq3.rowN (zbk seed) (by decide)
  have HRq3:Hid (RowsW vq3 [(gq3,cq3,5),((g0+1+1),zer64,24),((g0+1),(arrB sum),24),(g0,(arrB seed),22)]):=yh ⟨hrowq3,HR0.out.below hbq3⟩
  have HBq3:=yh (zaa HB0.out hbq3)
  have CUq3:=yh hcurq3
  have HGq3:=yh (Nat.le_trans HB0.out.size hgeq3)
  have NEq3_0:Hid (g0≠gq3):=yh (by have h:=hltq3 (g0,(arrB seed),22) (by simp);have:=hgeq3;simp only at h;omega)
  have NEq3_1:Hid ((g0+1)≠gq3):=yh (by have h:=hltq3 ((g0+1),(arrB sum),24) (by simp);have:=hgeq3;simp only at h;omega)
  have NEq3_2:Hid ((g0+1+1)≠gq3):=yh (by have h:=hltq3 ((g0+1+1),zer64,24) (by simp);have:=hgeq3;simp only at h;omega)
  clear hltq3 hoq3 hbq3 hgeq3 hrowq3 hcurq3
  have h0q4:(vq3.alloc (.cells zag 22)).heap[vq3.heap.size]?=some (.cells zag 22 (0,0)):=heap_alloc_new _ _
  have HRq4:=yh (HRq3.out.new zag (arrB (secB seed)) 22)
  have HBq4:=yh (zao HBq3.out zag (arrB (secB seed)) 22)
  have HNq4:=yh HRq3.out.ne
  have HGq4:=yh HBq3.out.size
  go_upto_region 4 with (refine yj (arrB (secB seed)) h0q4 (zah (za1 seed)) (zaz (za1 seed)) (zaq _) ?_)
  obtain ⟨Wq4,hWq4⟩:∃ W,(vq3.alloc (.cells zag 22)).setRow vq3.heap.size (arrB (secB seed))=W:=⟨_,rfl⟩
  obtain ⟨gq4,hgq4⟩:∃ g,vq3.heap.size=g:=⟨_,rfl⟩
  rw [hWq4,hgq4] at HRq4
  rw [hWq4] at HBq4
  rw [hgq4] at HNq4 HGq4
  rw [hWq4,hgq4]
  clear hWq4 hgq4 h0q4
  have NEq4_0:Hid (g0≠gq4):=yh (HNq4.out (g0,(arrB seed),22) (by simp))
  have NEq4_1:Hid ((g0+1)≠gq4):=yh (HNq4.out ((g0+1),(arrB sum),24) (by simp))
  have NEq4_2:Hid ((g0+1+1)≠gq4):=yh (HNq4.out ((g0+1+1),zer64,24) (by simp))
  have NEq4_3:Hid (gq3≠gq4):=yh (HNq4.out (gq3,cq3,5) (by simp))
  have l5:=HRq4.out.tail.tail.tail.tail.head
  go_wp2_with (refine yi l5 Tryz.underlying22 (zah HSE.out) ?_)
  with_reducible refine ((fun W=>rpublic_any seed HSE.out W) _).mono ?_
  rintro e vq6 ⟨rfl,hbq6⟩
  have HRq6:=yh (HRq4.out.below hbq6)
  have HBq6:=yh (zaa HBq4.out hbq6)
  clear hbq6
  have h0q7:(vq6.alloc (.cells zag 22)).heap[vq6.heap.size]?=some (.cells zag 22 (0,0)):=heap_alloc_new _ _
  have HRq7:=yh (HRq6.out.new zag (arrB (pubB seed)) 22)
  have HBq7:=yh (zao HBq6.out zag (arrB (pubB seed)) 22)
  have HNq7:=yh HRq6.out.ne
  have HGq7:=yh HBq6.out.size
  go_upto_region 5 with (refine yj (arrB (pubB seed)) h0q7 (zah (zbg _)) (zaz (zbg _)) (zaq _) ?_)
  obtain ⟨Wq7,hWq7⟩:∃ W,(vq6.alloc (.cells zag 22)).setRow vq6.heap.size (arrB (pubB seed))=W:=⟨_,rfl⟩
  obtain ⟨gq7,hgq7⟩:∃ g,vq6.heap.size=g:=⟨_,rfl⟩
  rw [hWq7,hgq7] at HRq7
  rw [hWq7] at HBq7
  rw [hgq7] at HNq7 HGq7
  rw [hWq7,hgq7]
  clear hWq7 hgq7 h0q7
  have NEq7_0:Hid (g0≠gq7):=yh (HNq7.out (g0,(arrB seed),22) (by simp))
  have NEq7_1:Hid ((g0+1)≠gq7):=yh (HNq7.out ((g0+1),(arrB sum),24) (by simp))
  have NEq7_2:Hid ((g0+1+1)≠gq7):=yh (HNq7.out ((g0+1+1),zer64,24) (by simp))
  have NEq7_3:Hid (gq3≠gq7):=yh (HNq7.out (gq3,cq3,5) (by simp))
  have NEq7_4:Hid (gq4≠gq7):=yh (HNq7.out (gq4,(arrB (secB seed)),22) (by simp))
  refine wp_region_noPanic ?_
  refine za8 7 11 22 zag (by kernel_rfl) (by kernel_rfl) ⟨by kernel_rfl,by kernel_rfl,hz32,fun _ _ _ h=>h⟩ (fun hA ok hS=>?_)
  refine' zaJ 0 hA ok rfl (by kernel_rfl) (by kernel_rfl) (by kernel_rfl) (by kernel_rfl) (by kernel_rfl) (by rfl) (by rfl) hS ?_ ?_ ?_
  rotate_left 2
  ·intro W hSW;go_simp;try with_reducible rfl
  ·simp only [List.set_cons_succ,List.set_cons_zero];rfl
  refine' zaJ 2 hA ok rfl (by kernel_rfl) (by kernel_rfl) (by kernel_rfl) (by kernel_rfl) (by kernel_rfl) (by rfl) (by rfl) hS ?_ ?_ ?_
  rotate_left 2
  ·intro W hSW;go_simp;try with_reducible rfl
  ·simp only [List.set_cons_succ,List.set_cons_zero];rfl
  refine' zaJ 3 hA ok rfl (by kernel_rfl) (by kernel_rfl) (by kernel_rfl) (by kernel_rfl) (by kernel_rfl) (by rfl) (by rfl) hS ?_ ?_ ?_
  rotate_left 2
  ·intro W hSW;go_simp;try with_reducible rfl
  ·simp only [List.set_cons_succ,List.set_cons_zero];rfl
  refine za6 1 hA ok rfl (by kernel_rfl) (by kernel_rfl) (by kernel_rfl) (by kernel_rfl) (by rfl) (by rfl) hS (fun oq8 Xq8 hS K hK=>?_)
  have o29:∀ W:World,Bs W C c→Calls Tryz.prog 13 #[.slice C n k] W (RetOb 5 W (prefB c)):=fun W h=>by have:=rprefix_any C c k W h (Nat.le_trans HCL.out (by decide));rw [HCN.out] at this;exact this
  go_simp
  with_reducible refine ((fun (_:World)=>o29 _ (HC.out.below (zaa HBq7.out (ok.low _ (HS.s hS))))) Xq8).mono ?_
  rintro e vq8 ⟨xq8,rfl,hoq8,hbq8⟩
  obtain ⟨Aq8,cq8,rfl,-,-⟩:=hoq8.formL HPN.out
  refine hK.out _ _ hbq8 (fun hS=>?_)
  clear hK K
  refine XS.mono (S2:=fun W=>(Below Wq7.heap.size Wq7 W)∧Ob 5 W Xq8.heap.size (.slice Aq8 pn cq8) (prefB c)) (fun _ h=>h.1) ?_
  replace ok:=ok.ob (E:=5) (base:=Xq8.heap.size) (v:=.slice Aq8 pn cq8) (l:=(prefB c)) (by decide)
  replace hS:HS _ _ _ (fun W=>(Below Wq7.heap.size Wq7 W)∧Ob 5 W Xq8.heap.size (.slice Aq8 pn cq8) (prefB c)) _ _:=⟨⟨HS.s hS,hoq8⟩,hS.2⟩
  refine za6 4 hA ok rfl (by kernel_rfl) (by kernel_rfl) (by kernel_rfl) (by kernel_rfl) (by rfl) (by rfl) hS (fun oq9 Xq9 hS K hK=>?_)
  obtain ⟨j10,hj10⟩:∃ y_:List UInt8,(prefB c)++(saltB seed)++sum++[]=y_:=⟨_,rfl⟩
  have Hj10:=yh hj10
  obtain ⟨nj10,hnj10⟩:∃ y_:Nat,j10.length=y_:=⟨_,rfl⟩
  have HNj10:=yh hnj10
  have HBj10:Hid (j10.length≤2000):=yh (by rw [← hj10];simp only [List.length_append,List.length_nil,(zbk seed),HSU.out];have:=HPL.out;omega)
  clear hj10 hnj10
  go_simp
  have kq9:=(fun (_:World)=>rjoined_any Aq8 (some ⟨gq3,0,none⟩) (some ⟨(g0+1),0,none⟩) none ((prefB c)) ((saltB seed)) (sum) ([]) pn 32 64 0 cq8 kq3 64 0 _ (Ob.bs ((HS.s hS).2)) (srow_bs ((HRq7.out.below (ok.low _ (HS.s hS))).tail.tail.head) CUq3.out (zbk seed)) (row_bs ((HRq7.out.below (ok.low _ (HS.s hS))).tail.tail.tail.tail.head)) (Bs.nil_ _ _) HPN.out (zbk seed) HSU.out rfl (Nat.le_trans HPL.out (by decide)) (by rw [zbk];decide) (by rw [HSU.out];decide) (by simp)) Xq9
  rw [Hj10.out] at kq9
  with_reducible refine kq9.mono ?_
  rintro e vq9 ⟨xq9,rfl,hoq9,hbq9⟩
  obtain ⟨Aq9,cq9,rfl,-,-⟩:=hoq9.formL HNj10.out
  refine hK.out _ _ hbq9 (fun hS=>?_)
  clear hK K
  refine XS.mono (S2:=fun W=>((Below Wq7.heap.size Wq7 W)∧Ob 5 W Xq8.heap.size (.slice Aq8 pn cq8) (prefB c))∧Ob 5 W Xq9.heap.size (.slice Aq9 nj10 cq9) j10) (fun _ h=>h.1) ?_
  replace ok:=ok.ob (E:=5) (base:=Xq9.heap.size) (v:=.slice Aq9 nj10 cq9) (l:=j10) (by decide)
  replace hS:HS _ _ _ (fun W=>((Below Wq7.heap.size Wq7 W)∧Ob 5 W Xq8.heap.size (.slice Aq8 pn cq8) (prefB c))∧Ob 5 W Xq9.heap.size (.slice Aq9 nj10 cq9) j10) _ _:=⟨⟨HS.s hS,hoq9⟩,hS.2⟩
  refine za6 5 hA ok rfl (by kernel_rfl) (by kernel_rfl) (by kernel_rfl) (by kernel_rfl) (by rfl) (by rfl) hS (fun oq11 Xq11 hS K hK=>?_)
  have o33:∀ W:World,Bs W Aq9 j10→Calls Tryz.prog 29 #[.slice Aq9 nj10 cq9] W (RetV W (.agg (arrB (za9 j10)))):=fun W h=>by have:=rof_any Aq9 j10 cq9 W h (Nat.le_trans HBj10.out (by decide));rw [HNj10.out] at this;exact this
  go_simp
  with_reducible refine ((fun (_:World)=>o33 _ (Ob.bs ((HS.s hS).2))) Xq11).mono ?_
  rintro e vq11 ⟨rfl,hbq11⟩
  refine hK.out _ _ hbq11 (fun hS=>?_)
  clear hK K hbq11
  refine za6 6 hA ok rfl (by kernel_rfl) (by kernel_rfl) (by kernel_rfl) (by kernel_rfl) (by rfl) (by rfl) hS (fun oq12 Xq12 hS K hK=>?_)
  obtain ⟨n13,hn13⟩:∃ x_:Nat,leN (za9 j10) % LL=x_:=⟨_,rfl⟩
  have Hn13:=yh hn13
  have HMn13:Hid (n13<256^32):=yh (by rw [← hn13];exact modLL_E _)
  clear hn13
  go_simp
  have kq12:=fun W:World=>(fun W=>rreduce11_any (za9 j10) (zbE _) W) W
  rw [Hn13.out] at kq12
  have Kq12:=yh kq12
  clear kq12
  with_reducible refine (Kq12.out _).mono ?_
  rintro e vq12 ⟨rfl,hbq12⟩
  refine hK.out _ _ hbq12 (fun hS=>?_)
  clear hK K hbq12
  refine' store_atS 8 hA ok rfl (by kernel_rfl) (by kernel_rfl) (by kernel_rfl) hS (by kernel_rfl) rfl (by intro h;cases h) (zaD _) (zaX _) (zbi _) ?_ ?_
  rotate_left 1
  ·intro g;simp only [List.set_cons_succ,List.set_cons_zero];rfl
  intro gq14 Wq14 hgq14 hsq14 hrowq14
  have hbq14:=ok.low _ hsq14
  clear hA hS
  refine wpAnyH_done (by kernel_rfl) ?_ _
  refine NoPanic.normal ?_
  (try simp only [Act.put])
  have HRq14:Hid (RowsW Wq14 [(gq14,(bytT n13),22),(gq7,(arrB (pubB seed)),22),(gq4,(arrB (secB seed)),22),(gq3,cq3,5),((g0+1+1),zer64,24),((g0+1),(arrB sum),24),(g0,(arrB seed),22)]):=yh ⟨hrowq14,HRq7.out.below hbq14⟩
  have HBq14:=yh (zaa HBq7.out hbq14)
  have NEq14_0:Hid (g0≠gq14):=yh (by have h:=HRq7.out.lt (g0,(arrB seed),22) (by simp);have:=hgq14;simp only at h;omega)
  have NEq14_1:Hid ((g0+1)≠gq14):=yh (by have h:=HRq7.out.lt ((g0+1),(arrB sum),24) (by simp);have:=hgq14;simp only at h;omega)
  have NEq14_2:Hid ((g0+1+1)≠gq14):=yh (by have h:=HRq7.out.lt ((g0+1+1),zer64,24) (by simp);have:=hgq14;simp only at h;omega)
  have NEq14_3:Hid (gq3≠gq14):=yh (by have h:=HRq7.out.lt (gq3,cq3,5) (by simp);have:=hgq14;simp only at h;omega)
  have NEq14_4:Hid (gq4≠gq14):=yh (by have h:=HRq7.out.lt (gq4,(arrB (secB seed)),22) (by simp);have:=hgq14;simp only at h;omega)
  have NEq14_5:Hid (gq7≠gq14):=yh (by have h:=HRq7.out.lt (gq7,(arrB (pubB seed)),22) (by simp);have:=hgq14;simp only at h;omega)
  have HGq14:=yh (Nat.le_trans HBq7.out.size hgq14)
  clear hrowq14 hbq14 hgq14 hsq14 ok
  go_upto_region 6 with fail
  refine wp_region_noPanic ?_
  refine zak 4 12 22 zag (by kernel_rfl) (by kernel_rfl) ⟨by kernel_rfl,by kernel_rfl,hz32,fun _ _ _ h=>h⟩ (fun hA hS=>?_)
  refine' yD 0 hA hS ?_ (hy:=fun W hSW=>zac rfl rfl (HRq14.out.below hSW).head Tryz.underlying22 rfl (zaD _))
  refine xE 1 hA hS (fun oq15 Xq15 hS K hK=>?_)
  go_simp
  with_reducible refine ((fun W=>rbaseN W) _).mono ?_
  rintro e vq15 ⟨cq15,rfl,rq15,hbq15⟩
  have Rq15:=yh rq15
  clear rq15
  refine hK.out _ _ hbq15 (fun hS=>?_)
  clear hK K hbq15
  refine xE 2 hA hS (fun oq17 Xq17 hS K hK=>?_)
  go_simp
  obtain ⟨p16,Hp16⟩:=yx (α:=PtD) (pmul (n13) F25519.base)
  have o37:∀ W:World,Calls Tryz.prog 32 #[.agg (bytT n13),.agg cq15] W (RetPt RQ W (pmul (n13) F25519.base)):=fun W=>by have h:=(rmult_any (zam 32 n13) Rq15.out) W;rw [zbr 32 n13 HMn13.out] at h;exact h
  with_reducible refine ((fun W=>o37 W) _).mono ?_
  rintro e vq17 ⟨cq17,rfl,rq17,hbq17⟩
  rw [Hp16.out] at rq17
  have Rq17:=yh rq17
  clear rq17
  refine hK.out _ _ hbq17 (fun hS=>?_)
  clear hK K hbq17
  refine xE 3 hA hS (fun oq18 Xq18 hS K hK=>?_)
  go_simp
  with_reducible refine ((rencode_any Rq17.out) _).mono ?_
  rintro e vq18 ⟨rfl,hbq18⟩
  refine hK.out _ _ hbq18 (fun hS=>?_)
  clear hK K hbq18
  refine' zaI 5 hA rfl (by kernel_rfl) (by kernel_rfl) (by kernel_rfl) hS (by kernel_rfl) rfl (by intro h;cases h) (zaD _) (zaX _) (zbi _) ?_ ?_
  rotate_left 1
  ·intro g;simp only [List.set_cons_succ,List.set_cons_zero];rfl
  intro gq19 Wq19 hgq19 hbq19 hrowq19
  clear hA hS
  refine wpAnyH_done (by kernel_rfl) ?_ _
  refine NoPanic.normal ?_
  (try simp only [Act.put])
  have HRq19:Hid (RowsW Wq19 [(gq19,(bytT (F25519.encN p16)),22),(gq14,(bytT n13),22),(gq7,(arrB (pubB seed)),22),(gq4,(arrB (secB seed)),22),(gq3,cq3,5),((g0+1+1),zer64,24),((g0+1),(arrB sum),24),(g0,(arrB seed),22)]):=yh ⟨hrowq19,HRq14.out.below hbq19⟩
  have HBq19:=yh (zaa HBq14.out hbq19)
  have NEq19_0:Hid (g0≠gq19):=yh (by have h:=HRq14.out.lt (g0,(arrB seed),22) (by simp);have:=hgq19;simp only at h;omega)
  have NEq19_1:Hid ((g0+1)≠gq19):=yh (by have h:=HRq14.out.lt ((g0+1),(arrB sum),24) (by simp);have:=hgq19;simp only at h;omega)
  have NEq19_2:Hid ((g0+1+1)≠gq19):=yh (by have h:=HRq14.out.lt ((g0+1+1),zer64,24) (by simp);have:=hgq19;simp only at h;omega)
  have NEq19_3:Hid (gq3≠gq19):=yh (by have h:=HRq14.out.lt (gq3,cq3,5) (by simp);have:=hgq19;simp only at h;omega)
  have NEq19_4:Hid (gq4≠gq19):=yh (by have h:=HRq14.out.lt (gq4,(arrB (secB seed)),22) (by simp);have:=hgq19;simp only at h;omega)
  have NEq19_5:Hid (gq7≠gq19):=yh (by have h:=HRq14.out.lt (gq7,(arrB (pubB seed)),22) (by simp);have:=hgq19;simp only at h;omega)
  have NEq19_6:Hid (gq14≠gq19):=yh (by have h:=HRq14.out.lt (gq14,(bytT n13),22) (by simp);have:=hgq19;simp only at h;omega)
  have HGq19:=yh (Nat.le_trans HBq14.out.size hgq19)
  clear hrowq19 hbq19 hgq19
  go_upto_region 7 with fail
  refine wp_region_noPanic ?_
  refine za8 8 13 22 zag (by kernel_rfl) (by kernel_rfl) ⟨by kernel_rfl,by kernel_rfl,hz32,fun _ _ _ h=>h⟩ (fun hA ok hS=>?_)
  refine' zaJ 0 hA ok rfl (by kernel_rfl) (by kernel_rfl) (by kernel_rfl) (by kernel_rfl) (by kernel_rfl) (by rfl) (by rfl) hS ?_ ?_ ?_
  rotate_left 2
  ·intro W hSW;go_simp;try with_reducible rfl
  ·simp only [List.set_cons_succ,List.set_cons_zero];rfl
  refine' zaJ 2 hA ok rfl (by kernel_rfl) (by kernel_rfl) (by kernel_rfl) (by kernel_rfl) (by kernel_rfl) (by rfl) (by rfl) hS ?_ ?_ ?_
  rotate_left 2
  ·intro W hSW;go_simp;try with_reducible rfl
  ·simp only [List.set_cons_succ,List.set_cons_zero];rfl
  refine' zaJ 3 hA ok rfl (by kernel_rfl) (by kernel_rfl) (by kernel_rfl) (by kernel_rfl) (by kernel_rfl) (by rfl) (by rfl) hS ?_ ?_ ?_
  rotate_left 2
  ·intro W hSW;go_simp;try with_reducible rfl
  ·simp only [List.set_cons_succ,List.set_cons_zero];rfl
  refine' zaJ 4 hA ok rfl (by kernel_rfl) (by kernel_rfl) (by kernel_rfl) (by kernel_rfl) (by kernel_rfl) (by rfl) (by rfl) hS ?_ ?_ ?_
  rotate_left 2
  ·intro W hSW;go_simp;try with_reducible rfl
  ·simp only [List.set_cons_succ,List.set_cons_zero];rfl
  refine za6 1 hA ok rfl (by kernel_rfl) (by kernel_rfl) (by kernel_rfl) (by kernel_rfl) (by rfl) (by rfl) hS (fun oq20 Xq20 hS K hK=>?_)
  have o40:∀ W:World,Bs W C c→Calls Tryz.prog 13 #[.slice C n k] W (RetOb 5 W (prefB c)):=fun W h=>by have:=rprefix_any C c k W h (Nat.le_trans HCL.out (by decide));rw [HCN.out] at this;exact this
  go_simp
  with_reducible refine ((fun (_:World)=>o40 _ (HC.out.below (zaa HBq19.out (ok.low _ (HS.s hS))))) Xq20).mono ?_
  rintro e vq20 ⟨xq20,rfl,hoq20,hbq20⟩
  obtain ⟨Aq20,cq20,rfl,-,-⟩:=hoq20.formL HPN.out
  refine hK.out _ _ hbq20 (fun hS=>?_)
  clear hK K
  refine XS.mono (S2:=fun W=>(Below Wq19.heap.size Wq19 W)∧Ob 5 W Xq20.heap.size (.slice Aq20 pn cq20) (prefB c)) (fun _ h=>h.1) ?_
  replace ok:=ok.ob (E:=5) (base:=Xq20.heap.size) (v:=.slice Aq20 pn cq20) (l:=(prefB c)) (by decide)
  replace hS:HS _ _ _ (fun W=>(Below Wq19.heap.size Wq19 W)∧Ob 5 W Xq20.heap.size (.slice Aq20 pn cq20) (prefB c)) _ _:=⟨⟨HS.s hS,hoq20⟩,hS.2⟩
  refine za6 5 hA ok rfl (by kernel_rfl) (by kernel_rfl) (by kernel_rfl) (by kernel_rfl) (by rfl) (by rfl) hS (fun oq21 Xq21 hS K hK=>?_)
  obtain ⟨j22,hj22⟩:∃ y_:List UInt8,(prefB c)++(leB 32 (F25519.encN p16))++(pubB seed)++sum=y_:=⟨_,rfl⟩
  have Hj22:=yh hj22
  obtain ⟨nj22,hnj22⟩:∃ y_:Nat,j22.length=y_:=⟨_,rfl⟩
  have HNj22:=yh hnj22
  have HBj22:Hid (j22.length≤2000):=yh (by rw [← hj22];simp only [List.length_append,(zam 32 (F25519.encN p16)),(zbg _),HSU.out];have:=HPL.out;omega)
  clear hj22 hnj22
  go_simp
  have kq21:=(fun (_:World)=>rjoined_any Aq20 (some ⟨gq19,0,none⟩) (some ⟨gq7,0,none⟩) (some ⟨(g0+1),0,none⟩) ((prefB c)) ((leB 32 (F25519.encN p16))) ((pubB seed)) (sum) pn 32 32 64 cq20 32 32 64 _ (Ob.bs ((HS.s hS).2)) (byt_bs ((HRq19.out.below (ok.low _ (HS.s hS))).head)) (row_bs ((HRq19.out.below (ok.low _ (HS.s hS))).tail.tail.head)) (row_bs ((HRq19.out.below (ok.low _ (HS.s hS))).tail.tail.tail.tail.tail.tail.head)) HPN.out (zam 32 (F25519.encN p16)) (zbg _) HSU.out (Nat.le_trans HPL.out (by decide)) (by rw [(zam 32 (F25519.encN p16))];decide) (by rw [(zbg _)];decide) (by rw [HSU.out];decide)) Xq21
  rw [Hj22.out] at kq21
  with_reducible refine kq21.mono ?_
  rintro e vq21 ⟨xq21,rfl,hoq21,hbq21⟩
  obtain ⟨Aq21,cq21,rfl,-,-⟩:=hoq21.formL HNj22.out
  refine hK.out _ _ hbq21 (fun hS=>?_)
  clear hK K
  refine XS.mono (S2:=fun W=>((Below Wq19.heap.size Wq19 W)∧Ob 5 W Xq20.heap.size (.slice Aq20 pn cq20) (prefB c))∧Ob 5 W Xq21.heap.size (.slice Aq21 nj22 cq21) j22) (fun _ h=>h.1) ?_
  replace ok:=ok.ob (E:=5) (base:=Xq21.heap.size) (v:=.slice Aq21 nj22 cq21) (l:=j22) (by decide)
  replace hS:HS _ _ _ (fun W=>((Below Wq19.heap.size Wq19 W)∧Ob 5 W Xq20.heap.size (.slice Aq20 pn cq20) (prefB c))∧Ob 5 W Xq21.heap.size (.slice Aq21 nj22 cq21) j22) _ _:=⟨⟨HS.s hS,hoq21⟩,hS.2⟩
  refine za6 6 hA ok rfl (by kernel_rfl) (by kernel_rfl) (by kernel_rfl) (by kernel_rfl) (by rfl) (by rfl) hS (fun oq23 Xq23 hS K hK=>?_)
  have o45:∀ W:World,Bs W Aq21 j22→Calls Tryz.prog 29 #[.slice Aq21 nj22 cq21] W (RetV W (.agg (arrB (za9 j22)))):=fun W h=>by have:=rof_any Aq21 j22 cq21 W h (Nat.le_trans HBj22.out (by decide));rw [HNj22.out] at this;exact this
  go_simp
  with_reducible refine ((fun (_:World)=>o45 _ (Ob.bs ((HS.s hS).2))) Xq23).mono ?_
  rintro e vq23 ⟨rfl,hbq23⟩
  refine hK.out _ _ hbq23 (fun hS=>?_)
  clear hK K hbq23
  refine za6 7 hA ok rfl (by kernel_rfl) (by kernel_rfl) (by kernel_rfl) (by kernel_rfl) (by rfl) (by rfl) hS (fun oq24 Xq24 hS K hK=>?_)
  obtain ⟨n25,hn25⟩:∃ x_:Nat,leN (za9 j22) % LL=x_:=⟨_,rfl⟩
  have Hn25:=yh hn25
  have HMn25:Hid (n25<256^32):=yh (by rw [← hn25];exact modLL_E _)
  clear hn25
  go_simp
  have kq24:=fun W:World=>(fun W=>rreduce11_any (za9 j22) (zbE _) W) W
  rw [Hn25.out] at kq24
  have Kq24:=yh kq24
  clear kq24
  with_reducible refine (Kq24.out _).mono ?_
  rintro e vq24 ⟨rfl,hbq24⟩
  refine hK.out _ _ hbq24 (fun hS=>?_)
  clear hK K hbq24
  refine' store_atS 9 hA ok rfl (by kernel_rfl) (by kernel_rfl) (by kernel_rfl) hS (by kernel_rfl) rfl (by intro h;cases h) (zaD _) (zaX _) (zbi _) ?_ ?_
  rotate_left 1
  ·intro g;simp only [List.set_cons_succ,List.set_cons_zero];rfl
  intro gq26 Wq26 hgq26 hsq26 hrowq26
  have hbq26:=ok.low _ hsq26
  clear hA hS
  refine wpAnyH_done (by kernel_rfl) ?_ _
  refine NoPanic.normal ?_
  (try simp only [Act.put])
  have HRq26:Hid (RowsW Wq26 [(gq26,(bytT n25),22),(gq19,(bytT (F25519.encN p16)),22),(gq14,(bytT n13),22),(gq7,(arrB (pubB seed)),22),(gq4,(arrB (secB seed)),22),(gq3,cq3,5),((g0+1+1),zer64,24),((g0+1),(arrB sum),24),(g0,(arrB seed),22)]):=yh ⟨hrowq26,HRq19.out.below hbq26⟩
  have HBq26:=yh (zaa HBq19.out hbq26)
  have NEq26_0:Hid (g0≠gq26):=yh (by have h:=HRq19.out.lt (g0,(arrB seed),22) (by simp);have:=hgq26;simp only at h;omega)
  have NEq26_1:Hid ((g0+1)≠gq26):=yh (by have h:=HRq19.out.lt ((g0+1),(arrB sum),24) (by simp);have:=hgq26;simp only at h;omega)
  have NEq26_2:Hid ((g0+1+1)≠gq26):=yh (by have h:=HRq19.out.lt ((g0+1+1),zer64,24) (by simp);have:=hgq26;simp only at h;omega)
  have NEq26_3:Hid (gq3≠gq26):=yh (by have h:=HRq19.out.lt (gq3,cq3,5) (by simp);have:=hgq26;simp only at h;omega)
  have NEq26_4:Hid (gq4≠gq26):=yh (by have h:=HRq19.out.lt (gq4,(arrB (secB seed)),22) (by simp);have:=hgq26;simp only at h;omega)
  have NEq26_5:Hid (gq7≠gq26):=yh (by have h:=HRq19.out.lt (gq7,(arrB (pubB seed)),22) (by simp);have:=hgq26;simp only at h;omega)
  have NEq26_6:Hid (gq14≠gq26):=yh (by have h:=HRq19.out.lt (gq14,(bytT n13),22) (by simp);have:=hgq26;simp only at h;omega)
  have NEq26_7:Hid (gq19≠gq26):=yh (by have h:=HRq19.out.lt (gq19,(bytT (F25519.encN p16)),22) (by simp);have:=hgq26;simp only at h;omega)
  have HGq26:=yh (Nat.le_trans HBq19.out.size hgq26)
  clear hrowq26 hbq26 hgq26 hsq26 ok
  go_upto_region 8 with fail
  have l27:=HRq26.out.head
  have l28:=HRq26.out.tail.tail.tail.tail.head
  have l29:=HRq26.out.tail.tail.head
  go_wp2_with (first
    | (refine yi l27 Tryz.underlying22 (zaD _) ?_)
    | (refine yi l28 Tryz.underlying22 (zah (za1 seed)) ?_)
    | (refine yi l29 Tryz.underlying22 (zaD _) ?_))
  obtain ⟨n30,hn30⟩:∃ x_:Nat,(n25*leN (secB seed)+n13) % LL=x_:=⟨_,rfl⟩
  have Hn30:=yh hn30
  have HMn30:Hid (n30<256^32):=yh (by rw [← hn30];exact modLL_E _)
  clear hn30
  have o50:∀ W:World,Calls Tryz.prog 34 #[.agg (bytT n25),.agg (arrB (secB seed)),.agg (bytT n13)] W (RetV W (.agg (bytT n30))):=fun W=>by have h:=rmuladd11_any (leB 32 n25) (secB seed) (leB 32 n13) (zam 32 n25) (za1 seed) (zam 32 n13) W;rw [zbr 32 n25 HMn25.out,zbr 32 n13 HMn13.out,Hn30.out] at h;exact h
  with_reducible refine ((fun W=>o50 W) _).mono ?_
  rintro e vq31 ⟨rfl,hbq31⟩
  have HRq31:=yh (HRq26.out.below hbq31)
  have HBq31:=yh (zaa HBq26.out hbq31)
  clear hbq31
  have h0q32:(vq31.alloc (.cells zag 22)).heap[vq31.heap.size]?=some (.cells zag 22 (0,0)):=heap_alloc_new _ _
  have HRq32:=yh (HRq31.out.new zag (bytT n30) 22)
  have HBq32:=yh (zao HBq31.out zag (bytT n30) 22)
  have HNq32:=yh HRq31.out.ne
  have HGq32:=yh HBq31.out.size
  go_upto_region 9 with (refine yj (bytT n30) h0q32 (zaD _) (zaX _) (zbi _) ?_)
  obtain ⟨Wq32,hWq32⟩:∃ W,(vq31.alloc (.cells zag 22)).setRow vq31.heap.size (bytT n30)=W:=⟨_,rfl⟩
  obtain ⟨gq32,hgq32⟩:∃ g,vq31.heap.size=g:=⟨_,rfl⟩
  rw [hWq32,hgq32] at HRq32
  rw [hWq32] at HBq32
  rw [hgq32] at HNq32 HGq32
  rw [hWq32,hgq32]
  clear hWq32 hgq32 h0q32
  have NEq32_0:Hid (g0≠gq32):=yh (HNq32.out (g0,(arrB seed),22) (by simp))
  have NEq32_1:Hid ((g0+1)≠gq32):=yh (HNq32.out ((g0+1),(arrB sum),24) (by simp))
  have NEq32_2:Hid ((g0+1+1)≠gq32):=yh (HNq32.out ((g0+1+1),zer64,24) (by simp))
  have NEq32_3:Hid (gq3≠gq32):=yh (HNq32.out (gq3,cq3,5) (by simp))
  have NEq32_4:Hid (gq4≠gq32):=yh (HNq32.out (gq4,(arrB (secB seed)),22) (by simp))
  have NEq32_5:Hid (gq7≠gq32):=yh (HNq32.out (gq7,(arrB (pubB seed)),22) (by simp))
  have NEq32_6:Hid (gq14≠gq32):=yh (HNq32.out (gq14,(bytT n13),22) (by simp))
  have NEq32_7:Hid (gq19≠gq32):=yh (HNq32.out (gq19,(bytT (F25519.encN p16)),22) (by simp))
  have NEq32_8:Hid (gq26≠gq32):=yh (HNq32.out (gq26,(bytT n25),22) (by simp))
  have h1:nonN seed c sum=n13:=by unfold nonN;rw [← Hn13.out,← Hj10.out,List.append_nil]
  have h2:oneP seed c sum=p16:=by unfold oneP;rw [h1];exact Hp16.out
  have h2b:oneB seed c sum=leB 32 (F25519.encN p16):=by unfold oneB encP;rw [h2]
  have h3:chaN (oneB seed c sum) (pubB seed) c sum=n25:=by rw [h2b];unfold chaN;rw [← Hn25.out,← Hj22.out]
  have h4:twoN seed c sum=n30:=by unfold twoN;rw [h3,h1];exact Hn30.out
  have HFI:Hid (signB seed c sum=leB 32 (F25519.encN p16)++leB 32 n30):=yh (by unfold signB;rw [h2b,h4])
  clear h1 h2 h2b h3 h4
  obtain ⟨l1,hl1⟩:∃ y_,leB 32 (F25519.encN p16)=y_:=⟨_,rfl⟩
  obtain ⟨l2,hl2⟩:∃ y_,leB 32 n30=y_:=⟨_,rfl⟩
  have HL1:Hid (l1.length=32):=yh (by rw [← hl1];exact zam _ _)
  have HL2:Hid (l2.length=32):=yh (by rw [← hl2];exact zam _ _)
  rw [hl1,hl2] at HFI
  have hA1:bytT (F25519.encN p16)=arrB l1:=by unfold bytT;rw [hl1]
  have hA2:bytT n30=arrB l2:=by unfold bytT;rw [hl2]
  rw [hA1,hA2] at HRq32
  have HA1:=yh hA1
  have HA2:=yh hA2
  clear hA1 hA2 hl1 hl2
  have h0q33:(Wq32.alloc (.cells zer64 24)).heap[Wq32.heap.size]?=some (.cells zer64 24 (0,0)):=heap_alloc_new _ _
  have HRq33:=yh (HRq32.out.new zer64 zer64 24)
  have HBq33:=yh (zao HBq32.out zer64 zer64 24)
  have HNq33:=yh HRq32.out.ne
  have HGq33:=yh HBq32.out.size
  go_upto_region 10 with (first
    | (refine zaO (o:=⟨some 51,_,_,_,_,_⟩) rfl (.agg zer64) (run_emp64 rfl _) ?_)
    | (refine yj zer64 h0q33 (zav (by simp)) rfl (zaq _) ?_))
  obtain ⟨Wq33,hWq33⟩:∃ W,(Wq32.alloc (.cells zer64 24)).setRow Wq32.heap.size zer64=W:=⟨_,rfl⟩
  obtain ⟨gq33,hgq33⟩:∃ g,Wq32.heap.size=g:=⟨_,rfl⟩
  rw [hWq33,hgq33] at HRq33
  rw [hWq33] at HBq33
  rw [hgq33] at HNq33 HGq33
  rw [hWq33,hgq33]
  clear hWq33 hgq33 h0q33
  have NEq33_0:Hid (g0≠gq33):=yh (HNq33.out (g0,(arrB seed),22) (by simp))
  have NEq33_1:Hid ((g0+1)≠gq33):=yh (HNq33.out ((g0+1),(arrB sum),24) (by simp))
  have NEq33_2:Hid ((g0+1+1)≠gq33):=yh (HNq33.out ((g0+1+1),zer64,24) (by simp))
  have NEq33_3:Hid (gq3≠gq33):=yh (HNq33.out (gq3,cq3,5) (by simp))
  have NEq33_4:Hid (gq4≠gq33):=yh (HNq33.out (gq4,(arrB (secB seed)),22) (by simp))
  have NEq33_5:Hid (gq7≠gq33):=yh (HNq33.out (gq7,(arrB (pubB seed)),22) (by simp))
  have NEq33_6:Hid (gq14≠gq33):=yh (HNq33.out (gq14,(bytT n13),22) (by simp))
  have NEq33_7:Hid (gq19≠gq33):=yh (HNq33.out (gq19,(arrB l1),22) (by simp))
  have NEq33_8:Hid (gq26≠gq33):=yh (HNq33.out (gq26,(bytT n25),22) (by simp))
  have NEq33_9:Hid (gq32≠gq33):=yh (HNq33.out (gq32,(arrB l2),22) (by simp))
  rw [← widE_zero l1 l2] at HRq33
  go_wp2_with fail
  go_loopw [16] (fun i wr=>∃ k:Nat,k≤32∧i=.int .i64 (k:Int)∧Hid (RowsW wr [(gq33,arrB (widE l1 l2 k),24),(gq32,(arrB l2),22),(gq26,(bytT n25),22),(gq19,(arrB l1),22),(gq14,(bytT n13),22),(gq7,(arrB (pubB seed)),22),(gq4,(arrB (secB seed)),22),(gq3,cq3,5),((g0+1+1),zer64,24),((g0+1),(arrB sum),24),(g0,(arrB seed),22)])∧Hid (Below w.heap.size w wr)) (fun i _=>32-(intOf i).toNat)
  case atStart=>exact ⟨0,by omega,rfl,by first | exact HRq33 | (rw [widE_zero] at HRq33;rw [widE_zero];exact HRq33),HBq33⟩
  case round =>
   clear HRq33
   obtain ⟨k_,hk,rfl,HR1,HB1⟩:=hrel
   by_cases hlt:k_<32
   ·obtain ⟨x,hx⟩:∃ x:UInt8,l1.getD k_ 0=x:=⟨_,rfl⟩
    obtain ⟨y,hy⟩:∃ y:UInt8,l2.getD k_ 0=y:=⟨_,rfl⟩
    obtain ⟨m_,hm_⟩:∃ m:Nat,32+k_=m:=⟨_,rfl⟩
    have cx:wr.cell? ⟨gq19,k_,none⟩=some (.int .u8 (x.toNat:Int)):=by rw [cell_of_row _ _ _ _ _ _ HR1.out.tail.tail.tail.head,zaG _ _ (by rw [HL1.out];exact hlt),hx]
    have co:wr.cell? ⟨gq33,k_,none⟩=some (.int .u8 (((widE l1 l2 k_).getD k_ 0).toNat:Int)):=by rw [cell_of_row _ _ _ _ _ _ HR1.out.head,zaG _ _ (by rw [zbH];omega)]
    have fo:=zaZ HR1.out.head k_
    have hs1:=HR1.out.set HNq33.out k_ (.int .u8 (x.toNat:Int))
    rw [za2] at hs1
    have cy:(wr.setCell ⟨gq33,k_,none⟩ (.int .u8 (x.toNat:Int))).cell? ⟨gq32,k_,none⟩=some (.int .u8 (y.toNat:Int)):=by rw [cell_of_row _ _ _ _ _ _ hs1.tail.head,zaG _ _ (by rw [HL2.out];exact hlt),hy]
    have cp:(wr.setCell ⟨gq33,k_,none⟩ (.int .u8 (x.toNat:Int))).cell? ⟨gq33,m_,none⟩=some (.int .u8 ((((widE l1 l2 k_).set k_ x).getD m_ 0).toNat:Int)):=by rw [cell_of_row _ _ _ _ _ _ hs1.head,zaG _ _ (by rw [List.length_set,zbH];omega)]
    have fp:=zaZ hs1.head m_
    have hs2:=hs1.set HNq33.out m_ (.int .u8 (y.toNat:Int))
    rw [za2,← hx,← hy,← hm_,widE_set l1 l2 k_ hlt,hx,hy,hm_] at hs2
    have HR2:=yh hs2
    have HB2:=yh ((HB1.out.setCell (p:=⟨gq33,k_,none⟩) (by show w.heap.size≤gq33;exact HGq33.out) (.int .u8 (x.toNat:Int))).setCell (p:=⟨gq33,m_,none⟩) (by show w.heap.size≤gq33;exact HGq33.out) (.int .u8 (y.toNat:Int)))
    generalize ((widE l1 l2 k_).getD k_ 0)=old at *
    generalize (((widE l1 l2 k_).set k_ x).getD m_ 0)=old2 at *
    obtain ⟨t,ht⟩:∃ t:Int,(x.toNat:Int)=t:=⟨_,rfl⟩
    obtain ⟨u,hu⟩:∃ t:Int,(y.toNat:Int)=t:=⟨_,rfl⟩
    rw [ht] at HR2 HB2 cx cy cp fp
    rw [hu] at HR2 HB2 cy
    have b5:0≤(k_:Int):=by omega
    have b6:(k_:Int)<32:=by omega
    have b7:(k_:Int)<64:=by omega
    have b8:IntKind.i64.wrap ((32:Int)+(k_:Int))=(m_:Int):=by rw [IntKind.wrap_i64];omega
    have b9:(m_:Int)<64:=by omega
    have b10:0≤(m_:Int):=by omega
    have b11:(32:Int)+(k_:Int)=(m_:Int):=by omega
    have b12:IntKind.i64.wrap (m_:Int)=(m_:Int):=by rw [IntKind.wrap_i64];omega
    clear HR1 HB1 hs1 hs2 hx hy ht hu hm_
    go_wp2_with fail
    go_roundw
    case rel=>exact ⟨k_+1,by omega,by go_num,HR2,HB2⟩
    case measure=>simp [intOf] <;> omega
   ·obtain rfl:k_=32:=by omega
    rw [widE_end HL1.out HL2.out] at HR1
    have HLL:Hid ((l1++l2).length=64):=yh (by rw [List.length_append,HL1.out,HL2.out])
    clear hlt hk
    have lo:=HR1.out.head
    have lsq34:=HR1.out.tail.tail.tail.tail.tail.tail.tail.tail.head
    have HRq34:Hid (RowsW (wr.setRow (g0+1+1) (arrB (l1++l2))) [(gq33,(arrB (l1++l2)),24),(gq32,(arrB l2),22),(gq26,(bytT n25),22),(gq19,(arrB l1),22),(gq14,(bytT n13),22),(gq7,(arrB (pubB seed)),22),(gq4,(arrB (secB seed)),22),(gq3,cq3,5),((g0+1+1),(arrB (l1++l2)),24),((g0+1),(arrB sum),24),(g0,(arrB seed),22)]):=yh ⟨(by rw [setRow_other _ _ _ _ (Ne.symm NEq33_2.out)];exact HR1.out.head),(by rw [setRow_other _ _ _ _ (Ne.symm NEq32_2.out)];exact HR1.out.tail.head),(by rw [setRow_other _ _ _ _ (Ne.symm NEq26_2.out)];exact HR1.out.tail.tail.head),(by rw [setRow_other _ _ _ _ (Ne.symm NEq19_2.out)];exact HR1.out.tail.tail.tail.head),(by rw [setRow_other _ _ _ _ (Ne.symm NEq14_2.out)];exact HR1.out.tail.tail.tail.tail.head),(by rw [setRow_other _ _ _ _ (Ne.symm NEq7_2.out)];exact HR1.out.tail.tail.tail.tail.tail.head),(by rw [setRow_other _ _ _ _ (Ne.symm NEq4_2.out)];exact HR1.out.tail.tail.tail.tail.tail.tail.head),(by rw [setRow_other _ _ _ _ (Ne.symm NEq3_2.out)];exact HR1.out.tail.tail.tail.tail.tail.tail.tail.head),setRow_heap _ _ _ _ _ _ lsq34,(by rw [setRow_other _ _ _ _ (by omega)];exact HR1.out.tail.tail.tail.tail.tail.tail.tail.tail.tail.head),(by rw [setRow_other _ _ _ _ (by omega)];exact HR1.out.tail.tail.tail.tail.tail.tail.tail.tail.tail.tail.head),trivial⟩
    have HBq34:=yh (zab (g:=(g0+1+1)) (cs:=(arrB (l1++l2))) HB1.out (by have:=HG0.out;omega))
    go_wp2_with (first
      | (refine yi lo Tryz.underlying24 (zav HLL.out) ?_)
      | (refine yj (arrB (l1++l2)) lsq34 (zav HLL.out) (zbu HLL.out) (zaq _) ?_))
    obtain ⟨Wq34,hWq34⟩:∃ W,wr.setRow (g0+1+1) (arrB (l1++l2))=W:=⟨_,rfl⟩
    rw [hWq34] at HRq34 HBq34
    (try rw [hWq34])
    clear hWq34 lsq34
    (try simp only [Exit.inBlock,Exit.then])
    refine bodyPost_ret (zaE rfl _ _ (g0+1+1) _ (arrB (l1++l2)) _ _ (.bool true) rfl rfl HRq34.out.tail.tail.tail.tail.tail.tail.tail.tail.head Tryz.underlying24 rfl (zav HLL.out)) rfl ?_
    exact ⟨by unfold sigR;rw [if_neg HBC.out,decide_eq_false HBC.out,HFI.out];rfl,HBq34.out⟩
theorem law14Tells (D:EdC) (w:World) (seed:List UInt8) (hseed:seed.length=32) (C:Option Addr) (c:List UInt8) (n k:Nat) (hn:c.length=n) (sum:List UInt8) (hsum:sum.length=64) (hc:Bs w C c):Calls Tryz.prog 3 #[.agg (arrB seed),.slice C n k,.agg (arrB sum)] w fun e w'=>e=.returned (.bool true)∧Below w.heap.size w w':=by
 have HAL:Hid (∀ W:World,Calls Tryz.prog 9 #[] W fun e w'=>e=.returned (.bool true)∧Below W.heap.size W w'):=yh (fun W=>alive14_any D W)
 have hz32:=zas
 have hz64:=zbm
 have Hseed:=yh hseed
 have Hsum:=yh hsum
 have HC:=yh hc
 have HCN:=yh hn
 clear hc hn hseed hsum
 have HR0:=yh (((RowsW.nil w).box (arrB seed) 22).box (arrB sum) 24)
 have HB0:=yh (zaf (zaf (Below.refl w.heap.size w) (arrB seed) 22) (arrB sum) 24)
 rw [World.size_alloc] at HR0
 go_enter Tryz.func3,Tryz.ntmps3
 go_wp2_with fail
 obtain ⟨W0,hW0⟩:∃ W,((w.alloc (.cells (arrB seed) 22)).alloc (.cells (arrB sum) 24))=W:=⟨_,rfl⟩
 obtain ⟨g0,hg0⟩:∃ g,w.heap.size=g:=⟨_,rfl⟩
 rw [hW0] at HR0 HB0
 rw [hg0] at HR0
 rw [hW0,hg0]
 have HG0:=yh hg0
 clear hW0 hg0
 with_reducible refine (HAL.out _).mono ?_
 rintro e v1 ⟨rfl,hb1⟩
 have HR1:=yh (HR0.out.below hb1)
 have HB1:=yh (zaa HB0.out hb1)
 clear hb1
 by_cases hb:300<n
 ·have d1:decide ((300:Int)<(n:Int))=true:=decide_eq_true (by omega)
  clear hb
  go_wp2_with fail
  go_ret
  exact ⟨rfl,HB1.out⟩
 ·have d1:decide ((300:Int)<(n:Int))=false:=decide_eq_false (by omega)
  have HCL:Hid (c.length≤1000):=yh (by rw [HCN.out];omega)
  clear hb
  obtain ⟨pf,hpf⟩:∃ y_:List UInt8,prefB c=y_:=⟨_,rfl⟩
  have Hpf:=yh hpf
  obtain ⟨pn,hpn⟩:∃ y_:Nat,pf.length=y_:=⟨_,rfl⟩
  have HPN:=yh hpn
  obtain ⟨sp,hsp⟩:∃ y_,strB pf=y_:=⟨_,rfl⟩
  have Hsp:=yh hsp
  clear hpf hpn hsp
  go_upto_region 4 with fail
  by_cases hl:255<c.length
  ·have HBC:=yh hl
   clear hl
   refine wp_region_noPanic ?_
   refine za8 8 8 24 zer64 (by kernel_rfl) (by kernel_rfl) ⟨by kernel_rfl,by kernel_rfl,hz64,fun _ _ _ h=>h⟩ (fun hA ok hS=>?_)
   refine' zaJ 0 hA ok rfl (by kernel_rfl) (by kernel_rfl) (by kernel_rfl) (by kernel_rfl) (by kernel_rfl) (by rfl) (by rfl) hS ?_ ?_ ?_
   rotate_left 2
   ·intro W hSW;exact zac rfl rfl (HR1.out.below (ok.low _ hSW)).tail.head Tryz.underlying22 rfl (zah Hseed.out)
   ·simp only [List.set_cons_succ,List.set_cons_zero];rfl
   refine' zaJ 1 hA ok rfl (by kernel_rfl) (by kernel_rfl) (by kernel_rfl) (by kernel_rfl) (by kernel_rfl) (by rfl) (by rfl) hS ?_ ?_ ?_
   rotate_left 2
   ·intro W hSW;go_simp;try with_reducible rfl
   ·simp only [List.set_cons_succ,List.set_cons_zero];rfl
   refine' zaJ 3 hA ok rfl (by kernel_rfl) (by kernel_rfl) (by kernel_rfl) (by kernel_rfl) (by kernel_rfl) (by rfl) (by rfl) hS ?_ ?_ ?_
   rotate_left 2
   ·intro W hSW;exact zac rfl rfl (HR1.out.below (ok.low _ hSW)).head Tryz.underlying24 rfl (zav Hsum.out)
   ·simp only [List.set_cons_succ,List.set_cons_zero];rfl
   refine za6 2 hA ok rfl (by kernel_rfl) (by kernel_rfl) (by kernel_rfl) (by kernel_rfl) (by rfl) (by rfl) hS (fun oq1 Xq1 hS K hK=>?_)
   refine wp_append_bs (ops:=#[]) rfl (.const (.slice none 0 0)) (.tmp 23) 23 rfl Xq1.heap.size 5 Tryz.underlying23 info5 (.slice none 0 0) [] rfl (Ob.nil_ _ _ _) C c n k rfl HCN.out.symm (HC.out.below (zaa HB1.out (ok.low _ (HS.s hS)))) (by have:=HCL.out;simp only [List.length_nil];omega) (Nat.le_refl _) ?_
   intro xq1 vq1 hoq1 hgrq1
   rw [List.nil_append] at hoq1
   have hbq1:=zbn hgrq1
   obtain ⟨Aq1,cq1,rfl,-,-⟩:=hoq1.formL HCN.out
   refine hK.out _ _ hbq1 (fun hS=>?_)
   clear hK K hgrq1
   refine XS.mono (S2:=fun W=>(Below v1.heap.size v1 W)∧Ob 5 W Xq1.heap.size (.slice Aq1 n cq1) c) (fun _ h=>h.1) ?_
   replace ok:=ok.ob (E:=5) (base:=Xq1.heap.size) (v:=.slice Aq1 n cq1) (l:=c) (by decide)
   replace hS:HS _ _ _ (fun W=>(Below v1.heap.size v1 W)∧Ob 5 W Xq1.heap.size (.slice Aq1 n cq1) c) _ _:=⟨⟨HS.s hS,hoq1⟩,hS.2⟩
   refine za6 4 hA ok rfl (by kernel_rfl) (by kernel_rfl) (by kernel_rfl) (by kernel_rfl) (by rfl) (by rfl) hS (fun oq2 Xq2 hS K hK=>?_)
   obtain ⟨y3,hy3⟩:∃ y_:List UInt8,sigR seed c sum=y_:=⟨_,rfl⟩
   have Hy3:=yh hy3
   have HNy3:Hid (y3.length=64):=yh (by rw [← hy3];exact sigR_len _ _ _)
   clear hy3
   have o26:∀ W:World,Bs W Aq1 c→Calls Tryz.prog 10 #[.agg (arrB seed),.slice Aq1 n cq1,.agg (arrB sum)] W (RetV W (.tuple #[.agg (arrB y3),.int .i64 1])):=fun W h=>by have h:=D.sign seed Hseed.out Aq1 c n cq1 HCN.out HCL.out sum Hsum.out W h;rw [Hy3.out,(if_pos HBC.out:(if 255<c.length then (1:Int) else 0)=1)] at h;exact h
   go_simp
   with_reducible refine ((fun (_:World)=>o26 _ (Ob.bs ((HS.s hS).2))) Xq2).mono ?_
   rintro e vq2 ⟨rfl,hbq2⟩
   refine hK.out _ _ hbq2 (fun hS=>?_)
   clear hK K hbq2
   refine' zaJ 5 hA ok rfl (by kernel_rfl) (by kernel_rfl) (by kernel_rfl) (by kernel_rfl) (by kernel_rfl) (by rfl) (by rfl) hS ?_ ?_ ?_
   rotate_left 2
   ·intro W hSW;go_simp;try with_reducible rfl
   ·simp only [List.set_cons_succ,List.set_cons_zero];rfl
   refine' zaJ 6 hA ok rfl (by kernel_rfl) (by kernel_rfl) (by kernel_rfl) (by kernel_rfl) (by kernel_rfl) (by rfl) (by rfl) hS ?_ ?_ ?_
   rotate_left 2
   ·intro W hSW;go_simp;try with_reducible rfl
   ·simp only [List.set_cons_succ,List.set_cons_zero];rfl
   refine' zaJ 7 hA ok rfl (by kernel_rfl) (by kernel_rfl) (by kernel_rfl) (by kernel_rfl) (by kernel_rfl) (by rfl) (by rfl) hS ?_ ?_ ?_
   rotate_left 2
   ·intro W hSW;go_simp;try with_reducible rfl
   ·simp only [List.set_cons_succ,List.set_cons_zero];rfl
   refine' store_atS 9 hA ok rfl (by kernel_rfl) (by kernel_rfl) (by kernel_rfl) hS (by kernel_rfl) rfl (by intro h;cases h) (zav HNy3.out) (zbu HNy3.out) (zaq _) ?_ ?_
   rotate_left 1
   ·intro g;simp only [List.set_cons_succ,List.set_cons_zero];rfl
   intro gq4 Wq4 hgq4 hsq4 hrowq4
   have hbq4:=ok.low _ hsq4
   clear hA hS
   refine' take_at 10 rfl (by kernel_rfl) (by kernel_rfl) (by kernel_rfl) (fun _ _ _ h=>h) (by rfl) hsq4 ?_ ?_ ?_
   rotate_left 2
   ·intro W hSW;go_simp;try with_reducible rfl
   ·simp only [List.set_cons_succ,List.set_cons_zero];rfl
   refine wpAnyH_done (by kernel_rfl) ?_ _
   refine NoPanic.normal ?_
   (try simp only [Act.put])
   have HRq4:Hid (RowsW Wq4 [(gq4,(arrB y3),24),((g0+1),(arrB sum),24),(g0,(arrB seed),22)]):=yh ⟨hrowq4,HR1.out.below hbq4⟩
   have HBq4:=yh (zaa HB1.out hbq4)
   have NEq4_0:Hid (g0≠gq4):=yh (by have h:=HR1.out.lt (g0,(arrB seed),22) (by simp);have:=hgq4;simp only at h;omega)
   have NEq4_1:Hid ((g0+1)≠gq4):=yh (by have h:=HR1.out.lt ((g0+1),(arrB sum),24) (by simp);have:=hgq4;simp only at h;omega)
   have HGq4:=yh (Nat.le_trans HB1.out.size hgq4)
   clear hrowq4 hbq4 hgq4 hsq4 ok
   go_upto_region 5 with fail
   have l5:=HRq4.out.tail.tail.head
   have l6:=HRq4.out.tail.head
   go_wp2_with (first
     | (refine yi l5 Tryz.underlying22 (zah Hseed.out) ?_)
     | (refine yi l6 Tryz.underlying24 (zav Hsum.out) ?_))
   have o33:∀ W:World,Bs W C c→Calls Tryz.prog 11 #[.agg (arrB seed),.slice C n k,.agg (arrB sum)] W (RetV W (.tuple #[.agg (arrB y3),.bool false])):=fun W h=>by have h:=rsign_any seed Hseed.out C c n k HCN.out HCL.out sum Hsum.out W h;rw [Hy3.out,show (!decide (255<c.length))=false by rw [decide_eq_true HBC.out];rfl] at h;exact h
   with_reducible refine ((fun (_:World)=>o33 _ (HC.out.below HBq4.out)) w).mono ?_
   rintro e vq7 ⟨rfl,hbq7⟩
   have HRq7:=yh (HRq4.out.below hbq7)
   have HBq7:=yh (zaa HBq4.out hbq7)
   clear hbq7
   have h0q8:(vq7.alloc (.cells zer64 24)).heap[vq7.heap.size]?=some (.cells zer64 24 (0,0)):=heap_alloc_new _ _
   have HRq8:=yh (HRq7.out.new zer64 (arrB y3) 24)
   have HBq8:=yh (zao HBq7.out zer64 (arrB y3) 24)
   have HNq8:=yh HRq7.out.ne
   have HGq8:=yh HBq7.out.size
   go_upto_region 6 with (refine yj (arrB y3) h0q8 (zav HNy3.out) (zbu HNy3.out) (zaq _) ?_)
   obtain ⟨Wq8,hWq8⟩:∃ W,(vq7.alloc (.cells zer64 24)).setRow vq7.heap.size (arrB y3)=W:=⟨_,rfl⟩
   obtain ⟨gq8,hgq8⟩:∃ g,vq7.heap.size=g:=⟨_,rfl⟩
   rw [hWq8,hgq8] at HRq8
   rw [hWq8] at HBq8
   rw [hgq8] at HNq8 HGq8
   rw [hWq8,hgq8]
   clear hWq8 hgq8 h0q8
   have NEq8_0:Hid (g0≠gq8):=yh (HNq8.out (g0,(arrB seed),22) (by simp))
   have NEq8_1:Hid ((g0+1)≠gq8):=yh (HNq8.out ((g0+1),(arrB sum),24) (by simp))
   have NEq8_2:Hid (gq4≠gq8):=yh (HNq8.out (gq4,(arrB y3),24) (by simp))
   have oq9:∀ W:World,Bs W C c→Calls Tryz.prog 12 #[.slice C n k] W (RetOb 5 W pf):=fun W h=>by have h:=D.prefix_ C c n k HCN.out HCL.out W h;rw [Hpf.out] at h;exact h
   have oq10:∀ W:World,Bs W C c→Calls Tryz.prog 13 #[.slice C n k] W (RetOb 5 W pf):=fun W h=>by have h:=rprefix_any C c k W h (Nat.le_trans HCL.out (by decide));rw [Hpf.out,HCN.out] at h;exact h
   refine wp_region_noPanic ?_
   refine wp_region_held_drew (S:=fun W=>Below Wq8.heap.size Wq8 W) (by kernel_rfl) (by exact (Below.refl _ _).drew) (fun hS=>?_)
   refine' yk 0  hS ?_
   refine' yk 3  hS ?_
   refine xk 1  (fun K hK=>?_)
   go_simp
   with_reducible refine (oq9 _ (HC.out.below (zaa HBq8.out hS))).mono ?_
   rintro e vq9 ⟨xq9,rfl,hoq9,hbq9⟩
   obtain ⟨Aq9,cq9,rfl,-,-⟩:=hoq9.formL HPN.out
   have kSq9:Below Wq8.heap.size Wq8 vq9:=zaa hS hbq9
   have cvq9:∀ W,Below vq9.heap.size vq9 W→(convert 23 9 (.slice Aq9 pn cq9)).run Tryz.prog W=.ok (.string sp) W:=fun W hW=>by
    rw [← Hsp.out]
    exact run_conv_bs W _ 5 _ Tryz.underlying23 Tryz.underlying5 Tryz.underlying9 Aq9 pf cq9 pn ((Ob.bs hoq9).below hW) HPN.out.symm
   clear hS
   refine hK.out _ _ (by exact kSq9) (fun hS=>?_)
   clear hK K
   refine held_mono (S2:=fun W=>Below vq9.heap.size vq9 W) (fun W hW=>kSq9.trans (hW.mono kSq9.size)) _ _ _ _ ?_
   replace hS:Below vq9.heap.size vq9 vq9:=Below.refl _ _
   have HRq9:=yh (HRq8.out.below kSq9)
   have HBq9:=yh (zaa HBq8.out kSq9)
   clear hoq9 hbq9
   refine' yk 2  hS ?_ (hy:=by intro W hSW;have hcv:=cvq9 W hSW;go_simp;try with_reducible rfl)
   refine xk 4  (fun K hK=>?_)
   go_simp
   with_reducible refine (oq10 _ (HC.out.below (zaa HBq9.out hS))).mono ?_
   rintro e vq10 ⟨xq10,rfl,hoq10,hbq10⟩
   obtain ⟨Aq10,cq10,rfl,-,-⟩:=hoq10.formL HPN.out
   have kSq10:Below vq9.heap.size vq9 vq10:=zaa hS hbq10
   have cvq10:∀ W,Below vq10.heap.size vq10 W→(convert 23 9 (.slice Aq10 pn cq10)).run Tryz.prog W=.ok (.string sp) W:=fun W hW=>by
    rw [← Hsp.out]
    exact run_conv_bs W _ 5 _ Tryz.underlying23 Tryz.underlying5 Tryz.underlying9 Aq10 pf cq10 pn ((Ob.bs hoq10).below hW) HPN.out.symm
   clear hS
   refine hK.out _ _ (by exact kSq10) (fun hS=>?_)
   clear hK K
   refine held_mono (S2:=fun W=>Below vq10.heap.size vq10 W) (fun W hW=>kSq10.trans (hW.mono kSq10.size)) _ _ _ _ ?_
   replace hS:Below vq10.heap.size vq10 vq10:=Below.refl _ _
   have HRq10:=yh (HRq9.out.below kSq10)
   have HBq10:=yh (zaa HBq9.out kSq10)
   clear hoq10 hbq10
   refine' yk 5  hS ?_ (hy:=by intro W hSW;have hcv:=cvq10 W hSW;go_simp;try with_reducible rfl)
   refine' yk 6  hS ?_
   refine' yk 7  hS ?_
   refine' yk 8  hS ?_ (hy:=fun W hSW=>zac rfl rfl (HRq10.out.below hSW).tail.tail.tail.head Tryz.underlying22 rfl (zah Hseed.out))
   refine' yk 10  hS ?_ (hy:=fun W hSW=>zac rfl rfl (HRq10.out.below hSW).tail.tail.tail.head Tryz.underlying22 rfl (zah Hseed.out))
   refine xk 9  (fun K hK=>?_)
   go_simp
   obtain ⟨y11,hy11⟩:∃ y_:List UInt8,pubB seed=y_:=⟨_,rfl⟩
   have Hy11:=yh hy11
   have HNy11:Hid (y11.length=32):=yh (by rw [← hy11];exact zbg _)
   clear hy11
   have kq12:=fun W:World=>(fun W=>D.pub seed Hseed.out W) W
   rw [Hy11.out] at kq12
   have Kq12:=yh kq12
   clear kq12
   with_reducible refine (Kq12.out _).mono ?_
   rintro e vq12 ⟨rfl,hbq12⟩
   have kbq12:=zaa hS hbq12
   clear hS hbq12
   refine hK.out _ _ (by exact kbq12) (fun hS=>?_)
   clear hK K
   refine xk 11  (fun K hK=>?_)
   go_simp
   have kq13:=fun W:World=>(fun W=>rpublic_any seed Hseed.out W) W
   rw [Hy11.out] at kq13
   have Kq13:=yh kq13
   clear kq13
   with_reducible refine (Kq13.out _).mono ?_
   rintro e vq13 ⟨rfl,hbq13⟩
   have kbq13:=zaa kbq12 hbq13
   clear hS hbq13
   refine hK.out _ _ (by exact kbq13) (fun hS=>?_)
   clear hK K
   refine' yk 12  hS ?_ (hy:=by intro W hSW;exact zbe rfl rfl rfl guardB (by have h:=eqByt HNy11.out HNy11.out W;rw [decide_eq_true rfl] at h;exact h))
   refine' yk 13  hS ?_
   refine' yk 14  hS ?_
   refine' yk 15  hS ?_ (hy:=fun W hSW=>zac rfl rfl (HRq10.out.below hSW).tail.head Tryz.underlying24 rfl (zav HNy3.out))
   refine' yk 16  hS ?_ (hy:=fun W hSW=>zac rfl rfl (HRq10.out.below hSW).head Tryz.underlying24 rfl (zav HNy3.out))
   refine' yk 17  hS ?_ (hy:=by intro W hSW;exact zbe rfl rfl rfl guardS (by have h:=eqS HNy3.out HNy3.out W;rw [decide_eq_true rfl] at h;exact h))
   refine' yk 18  hS ?_
   refine' yk 19  hS ?_
   refine' yk 20  hS ?_
   refine' yk 23  hS ?_
   refine xk 21  (fun K hK=>?_)
   go_simp
   with_reducible refine ((fun W=>num14_any 1 W) _).mono ?_
   rintro e vq14 ⟨rfl,hbq14⟩
   have kbq14:=zaa kbq13 hbq14
   clear hS hbq14
   refine hK.out _ _ (by exact kbq14) (fun hS=>?_)
   clear hK K
   refine' yk 22  hS ?_
   refine' yk 24  hS ?_
   refine' yk 25  hS ?_
   refine' yk 26  hS ?_
   refine' yk 27  hS ?_
   refine' yk 28  hS ?_
   refine' yk 29  hS ?_
   refine xk 30  (fun K hK=>?_)
   go_simp
   with_reducible refine ((fun W=>num14_any 1 W) _).mono ?_
   rintro e vq15 ⟨rfl,hbq15⟩
   have kbq15:=zaa kbq14 hbq15
   clear hS hbq15
   refine hK.out _ _ (by exact kbq15) (fun hS=>?_)
   clear hK K
   refine' yk 31  hS ?_
   refine' yk 32  hS ?_
   refine' yk 33  hS ?_
   refine' yk 34  hS ?_
   refine wpAnyH_done (by kernel_rfl) ?_ _
   refine NoPanic.normal ?_
   clear hS
   (try simp only [Act.put])
   have HRq16:=yh (HRq10.out.below kbq15)
   have HBq16:=yh (zaa HBq10.out kbq15)
   go_wp2_with fail
   go_ret
   exact ⟨rfl,HBq16.out⟩
  ·have HBC:=yh hl
   clear hl
   refine wp_region_noPanic ?_
   refine za8 8 8 24 zer64 (by kernel_rfl) (by kernel_rfl) ⟨by kernel_rfl,by kernel_rfl,hz64,fun _ _ _ h=>h⟩ (fun hA ok hS=>?_)
   refine' zaJ 0 hA ok rfl (by kernel_rfl) (by kernel_rfl) (by kernel_rfl) (by kernel_rfl) (by kernel_rfl) (by rfl) (by rfl) hS ?_ ?_ ?_
   rotate_left 2
   ·intro W hSW;exact zac rfl rfl (HR1.out.below (ok.low _ hSW)).tail.head Tryz.underlying22 rfl (zah Hseed.out)
   ·simp only [List.set_cons_succ,List.set_cons_zero];rfl
   refine' zaJ 1 hA ok rfl (by kernel_rfl) (by kernel_rfl) (by kernel_rfl) (by kernel_rfl) (by kernel_rfl) (by rfl) (by rfl) hS ?_ ?_ ?_
   rotate_left 2
   ·intro W hSW;go_simp;try with_reducible rfl
   ·simp only [List.set_cons_succ,List.set_cons_zero];rfl
   refine' zaJ 3 hA ok rfl (by kernel_rfl) (by kernel_rfl) (by kernel_rfl) (by kernel_rfl) (by kernel_rfl) (by rfl) (by rfl) hS ?_ ?_ ?_
   rotate_left 2
   ·intro W hSW;exact zac rfl rfl (HR1.out.below (ok.low _ hSW)).head Tryz.underlying24 rfl (zav Hsum.out)
   ·simp only [List.set_cons_succ,List.set_cons_zero];rfl
   refine za6 2 hA ok rfl (by kernel_rfl) (by kernel_rfl) (by kernel_rfl) (by kernel_rfl) (by rfl) (by rfl) hS (fun oq17 Xq17 hS K hK=>?_)
   refine wp_append_bs (ops:=#[]) rfl (.const (.slice none 0 0)) (.tmp 23) 23 rfl Xq17.heap.size 5 Tryz.underlying23 info5 (.slice none 0 0) [] rfl (Ob.nil_ _ _ _) C c n k rfl HCN.out.symm (HC.out.below (zaa HB1.out (ok.low _ (HS.s hS)))) (by have:=HCL.out;simp only [List.length_nil];omega) (Nat.le_refl _) ?_
   intro xq17 vq17 hoq17 hgrq17
   rw [List.nil_append] at hoq17
   have hbq17:=zbn hgrq17
   obtain ⟨Aq17,cq17,rfl,-,-⟩:=hoq17.formL HCN.out
   refine hK.out _ _ hbq17 (fun hS=>?_)
   clear hK K hgrq17
   refine XS.mono (S2:=fun W=>(Below v1.heap.size v1 W)∧Ob 5 W Xq17.heap.size (.slice Aq17 n cq17) c) (fun _ h=>h.1) ?_
   replace ok:=ok.ob (E:=5) (base:=Xq17.heap.size) (v:=.slice Aq17 n cq17) (l:=c) (by decide)
   replace hS:HS _ _ _ (fun W=>(Below v1.heap.size v1 W)∧Ob 5 W Xq17.heap.size (.slice Aq17 n cq17) c) _ _:=⟨⟨HS.s hS,hoq17⟩,hS.2⟩
   refine za6 4 hA ok rfl (by kernel_rfl) (by kernel_rfl) (by kernel_rfl) (by kernel_rfl) (by rfl) (by rfl) hS (fun oq18 Xq18 hS K hK=>?_)
   obtain ⟨y19,hy19⟩:∃ y_:List UInt8,sigR seed c sum=y_:=⟨_,rfl⟩
   have Hy19:=yh hy19
   have HNy19:Hid (y19.length=64):=yh (by rw [← hy19];exact sigR_len _ _ _)
   clear hy19
   have o26:∀ W:World,Bs W Aq17 c→Calls Tryz.prog 10 #[.agg (arrB seed),.slice Aq17 n cq17,.agg (arrB sum)] W (RetV W (.tuple #[.agg (arrB y19),.int .i64 0])):=fun W h=>by have h:=D.sign seed Hseed.out Aq17 c n cq17 HCN.out HCL.out sum Hsum.out W h;rw [Hy19.out,(if_neg HBC.out:(if 255<c.length then (1:Int) else 0)=0)] at h;exact h
   go_simp
   with_reducible refine ((fun (_:World)=>o26 _ (Ob.bs ((HS.s hS).2))) Xq18).mono ?_
   rintro e vq18 ⟨rfl,hbq18⟩
   refine hK.out _ _ hbq18 (fun hS=>?_)
   clear hK K hbq18
   refine' zaJ 5 hA ok rfl (by kernel_rfl) (by kernel_rfl) (by kernel_rfl) (by kernel_rfl) (by kernel_rfl) (by rfl) (by rfl) hS ?_ ?_ ?_
   rotate_left 2
   ·intro W hSW;go_simp;try with_reducible rfl
   ·simp only [List.set_cons_succ,List.set_cons_zero];rfl
   refine' zaJ 6 hA ok rfl (by kernel_rfl) (by kernel_rfl) (by kernel_rfl) (by kernel_rfl) (by kernel_rfl) (by rfl) (by rfl) hS ?_ ?_ ?_
   rotate_left 2
   ·intro W hSW;go_simp;try with_reducible rfl
   ·simp only [List.set_cons_succ,List.set_cons_zero];rfl
   refine' zaJ 7 hA ok rfl (by kernel_rfl) (by kernel_rfl) (by kernel_rfl) (by kernel_rfl) (by kernel_rfl) (by rfl) (by rfl) hS ?_ ?_ ?_
   rotate_left 2
   ·intro W hSW;go_simp;try with_reducible rfl
   ·simp only [List.set_cons_succ,List.set_cons_zero];rfl
   refine' store_atS 9 hA ok rfl (by kernel_rfl) (by kernel_rfl) (by kernel_rfl) hS (by kernel_rfl) rfl (by intro h;cases h) (zav HNy19.out) (zbu HNy19.out) (zaq _) ?_ ?_
   rotate_left 1
   ·intro g;simp only [List.set_cons_succ,List.set_cons_zero];rfl
   intro gq20 Wq20 hgq20 hsq20 hrowq20
   have hbq20:=ok.low _ hsq20
   clear hA hS
   refine' take_at 10 rfl (by kernel_rfl) (by kernel_rfl) (by kernel_rfl) (fun _ _ _ h=>h) (by rfl) hsq20 ?_ ?_ ?_
   rotate_left 2
   ·intro W hSW;go_simp;try with_reducible rfl
   ·simp only [List.set_cons_succ,List.set_cons_zero];rfl
   refine wpAnyH_done (by kernel_rfl) ?_ _
   refine NoPanic.normal ?_
   (try simp only [Act.put])
   have HRq20:Hid (RowsW Wq20 [(gq20,(arrB y19),24),((g0+1),(arrB sum),24),(g0,(arrB seed),22)]):=yh ⟨hrowq20,HR1.out.below hbq20⟩
   have HBq20:=yh (zaa HB1.out hbq20)
   have NEq20_0:Hid (g0≠gq20):=yh (by have h:=HR1.out.lt (g0,(arrB seed),22) (by simp);have:=hgq20;simp only at h;omega)
   have NEq20_1:Hid ((g0+1)≠gq20):=yh (by have h:=HR1.out.lt ((g0+1),(arrB sum),24) (by simp);have:=hgq20;simp only at h;omega)
   have HGq20:=yh (Nat.le_trans HB1.out.size hgq20)
   clear hrowq20 hbq20 hgq20 hsq20 ok
   go_upto_region 5 with fail
   have l21:=HRq20.out.tail.tail.head
   have l22:=HRq20.out.tail.head
   go_wp2_with (first
     | (refine yi l21 Tryz.underlying22 (zah Hseed.out) ?_)
     | (refine yi l22 Tryz.underlying24 (zav Hsum.out) ?_))
   have o33:∀ W:World,Bs W C c→Calls Tryz.prog 11 #[.agg (arrB seed),.slice C n k,.agg (arrB sum)] W (RetV W (.tuple #[.agg (arrB y19),.bool true])):=fun W h=>by have h:=rsign_any seed Hseed.out C c n k HCN.out HCL.out sum Hsum.out W h;rw [Hy19.out,show (!decide (255<c.length))=true by rw [decide_eq_false HBC.out];rfl] at h;exact h
   with_reducible refine ((fun (_:World)=>o33 _ (HC.out.below HBq20.out)) w).mono ?_
   rintro e vq23 ⟨rfl,hbq23⟩
   have HRq23:=yh (HRq20.out.below hbq23)
   have HBq23:=yh (zaa HBq20.out hbq23)
   clear hbq23
   have h0q24:(vq23.alloc (.cells zer64 24)).heap[vq23.heap.size]?=some (.cells zer64 24 (0,0)):=heap_alloc_new _ _
   have HRq24:=yh (HRq23.out.new zer64 (arrB y19) 24)
   have HBq24:=yh (zao HBq23.out zer64 (arrB y19) 24)
   have HNq24:=yh HRq23.out.ne
   have HGq24:=yh HBq23.out.size
   go_upto_region 6 with (refine yj (arrB y19) h0q24 (zav HNy19.out) (zbu HNy19.out) (zaq _) ?_)
   obtain ⟨Wq24,hWq24⟩:∃ W,(vq23.alloc (.cells zer64 24)).setRow vq23.heap.size (arrB y19)=W:=⟨_,rfl⟩
   obtain ⟨gq24,hgq24⟩:∃ g,vq23.heap.size=g:=⟨_,rfl⟩
   rw [hWq24,hgq24] at HRq24
   rw [hWq24] at HBq24
   rw [hgq24] at HNq24 HGq24
   rw [hWq24,hgq24]
   clear hWq24 hgq24 h0q24
   have NEq24_0:Hid (g0≠gq24):=yh (HNq24.out (g0,(arrB seed),22) (by simp))
   have NEq24_1:Hid ((g0+1)≠gq24):=yh (HNq24.out ((g0+1),(arrB sum),24) (by simp))
   have NEq24_2:Hid (gq20≠gq24):=yh (HNq24.out (gq20,(arrB y19),24) (by simp))
   have oq25:∀ W:World,Bs W C c→Calls Tryz.prog 12 #[.slice C n k] W (RetOb 5 W pf):=fun W h=>by have h:=D.prefix_ C c n k HCN.out HCL.out W h;rw [Hpf.out] at h;exact h
   have oq26:∀ W:World,Bs W C c→Calls Tryz.prog 13 #[.slice C n k] W (RetOb 5 W pf):=fun W h=>by have h:=rprefix_any C c k W h (Nat.le_trans HCL.out (by decide));rw [Hpf.out,HCN.out] at h;exact h
   refine wp_region_noPanic ?_
   refine wp_region_held_drew (S:=fun W=>Below Wq24.heap.size Wq24 W) (by kernel_rfl) (by exact (Below.refl _ _).drew) (fun hS=>?_)
   refine' yk 0  hS ?_
   refine' yk 3  hS ?_
   refine xk 1  (fun K hK=>?_)
   go_simp
   with_reducible refine (oq25 _ (HC.out.below (zaa HBq24.out hS))).mono ?_
   rintro e vq25 ⟨xq25,rfl,hoq25,hbq25⟩
   obtain ⟨Aq25,cq25,rfl,-,-⟩:=hoq25.formL HPN.out
   have kSq25:Below Wq24.heap.size Wq24 vq25:=zaa hS hbq25
   have cvq25:∀ W,Below vq25.heap.size vq25 W→(convert 23 9 (.slice Aq25 pn cq25)).run Tryz.prog W=.ok (.string sp) W:=fun W hW=>by
    rw [← Hsp.out]
    exact run_conv_bs W _ 5 _ Tryz.underlying23 Tryz.underlying5 Tryz.underlying9 Aq25 pf cq25 pn ((Ob.bs hoq25).below hW) HPN.out.symm
   clear hS
   refine hK.out _ _ (by exact kSq25) (fun hS=>?_)
   clear hK K
   refine held_mono (S2:=fun W=>Below vq25.heap.size vq25 W) (fun W hW=>kSq25.trans (hW.mono kSq25.size)) _ _ _ _ ?_
   replace hS:Below vq25.heap.size vq25 vq25:=Below.refl _ _
   have HRq25:=yh (HRq24.out.below kSq25)
   have HBq25:=yh (zaa HBq24.out kSq25)
   clear hoq25 hbq25
   refine' yk 2  hS ?_ (hy:=by intro W hSW;have hcv:=cvq25 W hSW;go_simp;try with_reducible rfl)
   refine xk 4  (fun K hK=>?_)
   go_simp
   with_reducible refine (oq26 _ (HC.out.below (zaa HBq25.out hS))).mono ?_
   rintro e vq26 ⟨xq26,rfl,hoq26,hbq26⟩
   obtain ⟨Aq26,cq26,rfl,-,-⟩:=hoq26.formL HPN.out
   have kSq26:Below vq25.heap.size vq25 vq26:=zaa hS hbq26
   have cvq26:∀ W,Below vq26.heap.size vq26 W→(convert 23 9 (.slice Aq26 pn cq26)).run Tryz.prog W=.ok (.string sp) W:=fun W hW=>by
    rw [← Hsp.out]
    exact run_conv_bs W _ 5 _ Tryz.underlying23 Tryz.underlying5 Tryz.underlying9 Aq26 pf cq26 pn ((Ob.bs hoq26).below hW) HPN.out.symm
   clear hS
   refine hK.out _ _ (by exact kSq26) (fun hS=>?_)
   clear hK K
   refine held_mono (S2:=fun W=>Below vq26.heap.size vq26 W) (fun W hW=>kSq26.trans (hW.mono kSq26.size)) _ _ _ _ ?_
   replace hS:Below vq26.heap.size vq26 vq26:=Below.refl _ _
   have HRq26:=yh (HRq25.out.below kSq26)
   have HBq26:=yh (zaa HBq25.out kSq26)
   clear hoq26 hbq26
   refine' yk 5  hS ?_ (hy:=by intro W hSW;have hcv:=cvq26 W hSW;go_simp;try with_reducible rfl)
   refine' yk 6  hS ?_
   refine' yk 7  hS ?_
   refine' yk 8  hS ?_ (hy:=fun W hSW=>zac rfl rfl (HRq26.out.below hSW).tail.tail.tail.head Tryz.underlying22 rfl (zah Hseed.out))
   refine' yk 10  hS ?_ (hy:=fun W hSW=>zac rfl rfl (HRq26.out.below hSW).tail.tail.tail.head Tryz.underlying22 rfl (zah Hseed.out))
   refine xk 9  (fun K hK=>?_)
   go_simp
   obtain ⟨y27,hy27⟩:∃ y_:List UInt8,pubB seed=y_:=⟨_,rfl⟩
   have Hy27:=yh hy27
   have HNy27:Hid (y27.length=32):=yh (by rw [← hy27];exact zbg _)
   clear hy27
   have kq28:=fun W:World=>(fun W=>D.pub seed Hseed.out W) W
   rw [Hy27.out] at kq28
   have Kq28:=yh kq28
   clear kq28
   with_reducible refine (Kq28.out _).mono ?_
   rintro e vq28 ⟨rfl,hbq28⟩
   have kbq28:=zaa hS hbq28
   clear hS hbq28
   refine hK.out _ _ (by exact kbq28) (fun hS=>?_)
   clear hK K
   refine xk 11  (fun K hK=>?_)
   go_simp
   have kq29:=fun W:World=>(fun W=>rpublic_any seed Hseed.out W) W
   rw [Hy27.out] at kq29
   have Kq29:=yh kq29
   clear kq29
   with_reducible refine (Kq29.out _).mono ?_
   rintro e vq29 ⟨rfl,hbq29⟩
   have kbq29:=zaa kbq28 hbq29
   clear hS hbq29
   refine hK.out _ _ (by exact kbq29) (fun hS=>?_)
   clear hK K
   refine' yk 12  hS ?_ (hy:=by intro W hSW;exact zbe rfl rfl rfl guardB (by have h:=eqByt HNy27.out HNy27.out W;rw [decide_eq_true rfl] at h;exact h))
   refine' yk 13  hS ?_
   refine' yk 14  hS ?_
   refine' yk 15  hS ?_ (hy:=fun W hSW=>zac rfl rfl (HRq26.out.below hSW).tail.head Tryz.underlying24 rfl (zav HNy19.out))
   refine' yk 16  hS ?_ (hy:=fun W hSW=>zac rfl rfl (HRq26.out.below hSW).head Tryz.underlying24 rfl (zav HNy19.out))
   refine' yk 17  hS ?_ (hy:=by intro W hSW;exact zbe rfl rfl rfl guardS (by have h:=eqS HNy19.out HNy19.out W;rw [decide_eq_true rfl] at h;exact h))
   refine' yk 18  hS ?_
   refine' yk 19  hS ?_
   refine' yk 20  hS ?_
   refine' yk 23  hS ?_
   refine xk 21  (fun K hK=>?_)
   go_simp
   with_reducible refine ((fun W=>num14_any 0 W) _).mono ?_
   rintro e vq30 ⟨rfl,hbq30⟩
   have kbq30:=zaa kbq29 hbq30
   clear hS hbq30
   refine hK.out _ _ (by exact kbq30) (fun hS=>?_)
   clear hK K
   refine' yk 22  hS ?_
   refine' yk 24  hS ?_
   refine' yk 25  hS ?_
   refine' yk 26  hS ?_
   refine' yk 27  hS ?_
   refine' yk 28  hS ?_
   refine' skip_at 29 rfl (by kernel_rfl) (by kernel_rfl) (by kernel_rfl) (fun _ _ _ h=>h) (by rfl) hS ?_ ?_
   rotate_left 1
   ·simp only [List.set_cons_succ,List.set_cons_zero];rfl
   refine' skipcall_at 30 rfl (by kernel_rfl) (by rfl) hS ?_ ?_
   rotate_left 1
   ·simp only [List.set_cons_succ,List.set_cons_zero];rfl
   refine' skip_at 31 rfl (by kernel_rfl) (by kernel_rfl) (by kernel_rfl) (fun _ _ _ h=>h) (by rfl) hS ?_ ?_
   rotate_left 1
   ·simp only [List.set_cons_succ,List.set_cons_zero];rfl
   refine' yk 32  hS ?_
   refine' yk 33  hS ?_
   refine' yk 34  hS ?_
   refine wpAnyH_done (by kernel_rfl) ?_ _
   refine NoPanic.normal ?_
   clear hS
   (try simp only [Act.put])
   have HRq31:=yh (HRq26.out.below kbq30)
   have HBq31:=yh (zaa HBq26.out kbq30)
   go_wp2_with fail
   go_ret
   exact ⟨rfl,HBq31.out⟩
end Go.Proofs.YtkgodlcnoenmbaaGreat
namespace Go.Proofs.YtkgodlcnoenmbaaGreat
open Go.RowKit
set_option linter.unusedVariables false
set_option maxRecDepth 100000
def wordsV (l:List UInt8):List W64:=if l.length=128 then zbf l else List.replicate 16 0
end Go.Proofs.YtkgodlcnoenmbaaGreat
namespace Go.Proofs.YtkgodlcnoenmbaaGreat
open Go.RowKit
set_option linter.unusedVariables false
set_option maxRecDepth 100000
theorem run_load_row {P:Program} {ρ:Operand→Value} {o:Oper} {w:World} {ty:TypeId} {x:Operand} (ho:o.op=.load ty x) {g:Nat} (hx:ρ x=.pointer (some ⟨g,0,none⟩)) {t:TypeId} {cs:Array Value} {fr:Nat × Nat} {d:TypeDesc} (hg:w.heap[g]?=some (.cells cs t fr))
  (hu:P.underlying ty=some d) (hd:(match d with | .struct _ | .array _ _=>true | _=>false)=true) (hi:(P.info? ty).map (·.size)=some cs.size) :
  (execOp ρ o).run P w=.ok (.value (.agg cs)) w:=by
 unfold execOp
 simp only [ho,hx,Instr.loadAt,Instr.sureAddr,Sem.run_bind,Sem.run_pure,Result.andThen_ok,run_loadVar_row w g t ty cs fr d hg hu hd hi]
end Go.Proofs.YtkgodlcnoenmbaaGreat
namespace Go.Proofs.YtkgodlcnoenmbaaGreat
open Go.RowKit
set_option linter.unusedVariables false
set_option maxRecDepth 100000
set_option maxHeartbeats 6400000
abbrev BRow:=List (Option Addr × List UInt8 × Nat)
structure RowAt (W:World) (P:Option Addr) (rows:BRow):Prop where
 cell:0<rows.length→∃ b o,P=some ⟨b,o,none⟩∧∀ i r,rows[i]?=some r→W.cell? ⟨b,o+i,none⟩=some (.slice r.1 r.2.1.length r.2.2)
 row:∀ r ∈ rows,Bs W r.1 r.2.1∧r.2.1.length≤r.2.2
def rowsB (rows:BRow):List UInt8:=rows.flatMap fun r=>r.2.1
abbrev HashP:=World→Nat→Sh→(Nat→Prop)→Prop
theorem rot_mod (x:W64) {n m:Int} (h:n % 64=m % 64):rot x n=rot x m:=by unfold rot;rw [h]
theorem and63 (k:Int):∃ s:Nat,s<64∧k % 64=(s:Int)∧bits .and .u64 (IntKind.u64.wrap k) 63=(s:Int):=by
 obtain ⟨K,hK⟩:∃ K:Nat,IntKind.u64.wrap k=(K:Int):=⟨(IntKind.u64.wrap k).toNat,by rw [IntKind.wrap_u64];omega⟩
 have hK2:(K:Int)=k % 18446744073709551616:=by rw [← hK,IntKind.wrap_u64]
 refine ⟨K % 64,Nat.mod_lt _ (by omega),by omega,?_⟩
 rw [hK]
 have h:=u64_and_nat K 63 (by omega) (by omega)
 rw [show (63:Nat)=2^6-1 by decide,Nat.and_two_pow_sub_one_eq_mod] at h
 exact h
theorem left_is (x:W64) (k:Int) {s:Nat} (hs:s<64) (h:k % 64=(s:Int)):x <<< s ||| x >>> (64-s)=rot x (-k):=by
 by_cases h0:s=0
 ·subst h0
  rw [rot_zero x (n:=-k) (by omega)]
  apply w_ext
  intro i hi
  simp
 ·rw [rot_shifts x (-k) (r:=64-s) (by omega),BitVec.or_comm]
  congr 2
  omega
theorem rotl_any (x:W64) (k:Int) (w:World) :
  Calls Tryz.prog 166 #[.int .u64 (x.toNat:Int),.int .i64 k] w fun e w'=>e=.returned (.int .u64 ((rot x (-k)).toNat:Int))∧w'=w:=by
 obtain ⟨s,hs,hk,ha⟩:=and63 k
 rw [← left_is x k hs hk]
 obtain ⟨r,hr⟩:∃ r,64-s=r:=⟨_,rfl⟩
 have t5:(64:Int)-(s:Int)=(r:Int):=by omega
 have t6:IntKind.u64.wrap (r:Int)=(r:Int):=by rw [IntKind.wrap_u64];omega
 have t7:=shr_w x r
 have t8:=shl_w x s
 have t9:=or_w (x <<< s) (x >>> r)
 rw [hr]
 generalize (x <<< s ||| x >>> r).toNat=v at *
 generalize (x >>> r).toNat=y at *
 generalize (x <<< s).toNat=z at *
 have hX:=x.isLt
 generalize x.toNat=X at *
 have hrl:r<65:=by omega
 clear hk hr
 go_enter Tryz.func166,Tryz.ntmps166
 go_wp2
 go_ret
 exact ⟨rfl,rfl⟩
theorem zbA (x:W64) (n:Int) (h1:-9223372036854775808≤n) (h2:n≤9223372036854775807) (w:World) :
  Calls Tryz.prog 165 #[.int .u64 (x.toNat:Int),.int .i64 n] w fun e w'=>e=.returned (.int .u64 ((rot x n).toNat:Int))∧w'=w:=by
 obtain ⟨m,hm⟩:∃ m,IntKind.i64.wrap (-n)=m:=⟨_,rfl⟩
 have e:rot x n=rot x (-m):=rot_mod x (by rw [← hm,IntKind.wrap_i64];omega)
 have H:=yh (fun W=>rotl_any x m W)
 rw [e]
 clear e
 generalize (rot x (-m)).toNat=v at *
 generalize x.toNat=X at *
 go_enter Tryz.func165,Tryz.ntmps165
 go_wp2_with ((with_reducible refine (H.out _).mono ?_);rintro e w' ⟨rfl,rfl⟩)
 go_ret
 exact ⟨rfl,rfl⟩
theorem pch_any (x y z:W64) (w:World) :
  Calls Tryz.prog 143 #[.int .u64 (x.toNat:Int),.int .u64 (y.toNat:Int),.int .u64 (z.toNat:Int)] w fun e w'=>e=.returned (.int .u64 ((chW x y z).toNat:Int))∧w'=w:=by
 unfold chW
 have f1:=and_w x y
 have f2:bits .xor .u64 IntKind.u64.max (x.toNat:Int)=((~~~x).toNat:Int):=not_w x
 generalize ~~~x=nx at *
 have f3:=and_w nx z
 generalize x &&& y=a at *
 generalize nx &&& z=b at *
 have f4:=or_w a b
 go_enter Tryz.func143,Tryz.ntmps143
 go_wp2
 go_ret
 exact ⟨rfl,rfl⟩
theorem pmaj_any (x y z:W64) (w:World) :
  Calls Tryz.prog 145 #[.int .u64 (x.toNat:Int),.int .u64 (y.toNat:Int),.int .u64 (z.toNat:Int)] w fun e w'=>e=.returned (.int .u64 ((majW x y z).toNat:Int))∧w'=w:=by
 unfold majW
 have f1:=and_w x y
 have f2:=and_w x z
 have f3:=and_w y z
 generalize x &&& y=a at *
 generalize x &&& z=b at *
 generalize y &&& z=c at *
 have f4:=or_w a b
 generalize a ||| b=d at *
 have f5:=or_w d c
 go_enter Tryz.func145,Tryz.ntmps145
 go_wp2
 go_ret
 exact ⟨rfl,rfl⟩
def bigE (x:W64):W64:=rot x 14 ^^^ rot x 18 ^^^ rot x 41
def bigA (x:W64):W64:=rot x 28 ^^^ rot x 34 ^^^ rot x 39
theorem small0_any (x:W64) (w:World) :
  Calls Tryz.prog 164 #[.int .u64 (x.toNat:Int)] w fun e w'=>e=.returned (.int .u64 ((sig0 x).toNat:Int))∧w'=w:=by
 unfold sig0
 have R1:=yh (fun W=>zbA x 1 (by omega) (by omega) W)
 have R2:=yh (fun W=>zbA x 8 (by omega) (by omega) W)
 have f0:=shr_w x 7
 generalize x >>> 7=s at *
 generalize rot x 1=a at *
 generalize rot x 8=b at *
 have f1:=xor_w a b
 generalize a ^^^ b=c at *
 have f2:=xor_w c s
 have g0:(x.toNat:Int)/128=(s.toNat:Int):=f0
 go_enter Tryz.func164,Tryz.ntmps164
 go_wp2_with (first | ((with_reducible refine (R1.out _).mono ?_);rintro e w' ⟨rfl,rfl⟩) | ((with_reducible refine (R2.out _).mono ?_);rintro e w' ⟨rfl,rfl⟩))
 go_ret
 exact ⟨rfl,rfl⟩
theorem small1_any (x:W64) (w:World) :
  Calls Tryz.prog 163 #[.int .u64 (x.toNat:Int)] w fun e w'=>e=.returned (.int .u64 ((sig1 x).toNat:Int))∧w'=w:=by
 unfold sig1
 have R1:=yh (fun W=>zbA x 19 (by omega) (by omega) W)
 have R2:=yh (fun W=>zbA x 61 (by omega) (by omega) W)
 have f0:=shr_w x 6
 generalize x >>> 6=s at *
 generalize rot x 19=a at *
 generalize rot x 61=b at *
 have f1:=xor_w a b
 generalize a ^^^ b=c at *
 have f2:=xor_w c s
 have g0:(x.toNat:Int)/64=(s.toNat:Int):=f0
 go_enter Tryz.func163,Tryz.ntmps163
 go_wp2_with (first | ((with_reducible refine (R1.out _).mono ?_);rintro e w' ⟨rfl,rfl⟩) | ((with_reducible refine (R2.out _).mono ?_);rintro e w' ⟨rfl,rfl⟩))
 go_ret
 exact ⟨rfl,rfl⟩
theorem big0_any (x:W64) (w:World) :
  Calls Tryz.prog 144 #[.int .u64 (x.toNat:Int)] w fun e w'=>e=.returned (.int .u64 ((bigA x).toNat:Int))∧w'=w:=by
 unfold bigA
 have R1:=yh (fun W=>zbA x 28 (by omega) (by omega) W)
 have R2:=yh (fun W=>zbA x 34 (by omega) (by omega) W)
 have R3:=yh (fun W=>zbA x 39 (by omega) (by omega) W)
 generalize rot x 28=a at *
 generalize rot x 34=b at *
 generalize rot x 39=s at *
 have f1:=xor_w a b
 generalize a ^^^ b=c at *
 have f2:=xor_w c s
 go_enter Tryz.func144,Tryz.ntmps144
 go_wp2_with (first | ((with_reducible refine (R1.out _).mono ?_);rintro e w' ⟨rfl,rfl⟩) | ((with_reducible refine (R2.out _).mono ?_);rintro e w' ⟨rfl,rfl⟩) | ((with_reducible refine (R3.out _).mono ?_);rintro e w' ⟨rfl,rfl⟩))
 go_ret
 exact ⟨rfl,rfl⟩
theorem big1_any (x:W64) (w:World) :
  Calls Tryz.prog 142 #[.int .u64 (x.toNat:Int)] w fun e w'=>e=.returned (.int .u64 ((bigE x).toNat:Int))∧w'=w:=by
 unfold bigE
 have R1:=yh (fun W=>zbA x 14 (by omega) (by omega) W)
 have R2:=yh (fun W=>zbA x 18 (by omega) (by omega) W)
 have R3:=yh (fun W=>zbA x 41 (by omega) (by omega) W)
 generalize rot x 14=a at *
 generalize rot x 18=b at *
 generalize rot x 41=s at *
 have f1:=xor_w a b
 generalize a ^^^ b=c at *
 have f2:=xor_w c s
 go_enter Tryz.func142,Tryz.ntmps142
 go_wp2_with (first | ((with_reducible refine (R1.out _).mono ?_);rintro e w' ⟨rfl,rfl⟩) | ((with_reducible refine (R2.out _).mono ?_);rintro e w' ⟨rfl,rfl⟩) | ((with_reducible refine (R3.out _).mono ?_);rintro e w' ⟨rfl,rfl⟩))
 go_ret
 exact ⟨rfl,rfl⟩
theorem wpList_copy_row {P:Program} {w:World} {ops:Array Oper} {rest:List Oper} {o:Oper} {a:Act} {Q:Exit→Act→World→Prop} (hgd:o.guard=none) (d s:Operand) (dT sT:TypeId)
  (ho:o.op=.call { callee:=.builtin .copy,args:=#[d,s],argTypes:=#[dT,sT] }) (E:TypeId) (hu:P.underlying dT=some (.slice E)) (hs:(P.info? E).map (·.size)=some 1)
  (g dLen dCap b:Nat) (sLen sCap:Nat) (hd:a.eval d=.slice (some ⟨g,0,none⟩) dLen dCap) (hx:a.eval s=.slice (some ⟨b,0,none⟩) sLen sCap) (cur cs:Array Value) (t t':TypeId)
  (hg:w.heap[g]?=some (.cells cur t (0,0))) (hb:w.heap[b]?=some (.cells cs t' (0,0))) (hl:sLen=cs.size) (hn:cs.size≤dLen) (hfit:cs.size≤cur.size) (h1:cs.all (·.oneCell')=true)
  (h:wpList P ops Q rest (a.put o.dst (goInt cs.size)) (w.setRow g (cs.toList++cur.toList.drop cs.size).toArray)):wpList P ops Q (o :: rest) a w:=by
 refine wpList_plain hgd fun K hK=>?_
 subst hl
 have hrun:=run_copy_row (P:=P) w dT sT o.type E g 0 dLen dCap ⟨b,0,none⟩ cs.size sCap cur t cs.toList hu hs hg (by rw [show Nat.min cs.size dLen=min cs.size dLen from rfl,Nat.min_eq_left hn];simp)
  (fun j v hj=>by
   have:=cell_of_row w b j cs t' (0,0) hb
   have e:(⟨b,0,none⟩:Addr).add j=⟨b,j,none⟩:=by
    unfold Addr.add
    split
    ·rename_i h;subst h;rfl
    ·simp
   rw [e,this]
   simpa using hj) (by simpa using hfit) (fun v hv=>by
   rw [Array.all_eq_true'] at h1
   exact h1 v (by simpa using hv))
 unfold Oper.wp execOp
 simp only [ho,resolve,invoke,builtin,Sem.run_bind,Sem.run_pure,Result.andThen_ok,List.map_toArray,List.map_cons,List.map_nil,hd,hx,hrun]
 refine hK _ _ ?_
 simpa using h
theorem pwords_any (A:Option Addr) (l:List UInt8) (c:Nat) (w:World) (hbs:Bs w A l) :
  Calls Tryz.prog 104 #[.slice A l.length c] w fun e w'=>e=.returned (.tuple #[.agg (tabW (wordsV l)),.bool (decide (l.length=128))])∧Below w.heap.size w w':=by
 have hz:=fun u=>zbj 136 16 (by kernel_rfl) u
 obtain ⟨t0,ht0⟩:∃ t0,tabW (List.replicate 16 0)=t0:=⟨_,rfl⟩
 have ht0s:t0.size=16:=by rw [← ht0,zan];simp
 rw [ht0] at hz
 have h0:((w.alloc (.cells t0 136)).alloc (.cells t0 136)).heap[w.heap.size]?=some (.cells t0 136 (0,0)):=heap_alloc2_old _ _ _
 have h2:((w.alloc (.cells t0 136)).alloc (.cells t0 136)).heap[w.heap.size+1]?=some (.cells t0 136 (0,0)):=heap_alloc2_new _ _ _
 have s0:(Tryz.prog.info? 136).map (·.size)=some t0.size:=by rw [ht0s];kernel_rfl
 have o0:t0.all (·.oneCell')=true:=by rw [← ht0];exact zaW _
 have hbe0:Below w.heap.size w ((w.alloc (.cells t0 136)).alloc (.cells t0 136)):=zad (zad (Below.refl _ w) _) _
 have HT:=yh ht0
 have HS:=yh hbs
 clear ht0
 unfold wordsV
 by_cases hlen:l.length=128
 ·rw [if_pos hlen]
  have hd:decide (l.length=128)=true:=by simp [hlen]
  rw [hd,hlen]
  have HL:=yh hlen
  clear hd hlen hbs
  go_enter Tryz.func104,Tryz.ntmps104
  go_wp2_with fail
  obtain ⟨W1,hW1⟩:∃ W,(w.alloc (.cells t0 136)).alloc (.cells t0 136)=W:=⟨_,rfl⟩
  obtain ⟨g,hg⟩:∃ g,w.heap.size=g:=⟨_,rfl⟩
  have HG:=yh hg
  rw [hW1,hg] at h0 h2 hbe0
  have HB1:=yh h2
  have HB0:=yh h0
  have HBE:=yh hbe0
  rw [← HT.out] at HB1
  rw [hW1,hg]
  clear h0 h2 hbe0 hW1 hg
  go_loopw [13] (fun i wr=>∃ k:Nat,k≤128∧i=.int .i64 (k:Int)∧Hid (wr.heap[g]?=some (.cells t0 136 (0,0))) ∧
    Hid (wr.heap[g+1]?=some (.cells (tabW (zaQ l k)) 136 (0,0)))∧Hid (Below g w wr)) (fun i _=>128-(intOf i).toNat)
  case atStart=>exact ⟨0,by omega,rfl,HB0,HB1,HBE⟩
  case round =>
   clear HB0 HB1 HBE
   obtain ⟨k,hk,rfl,HB0,HB1,HBE⟩:=hrel
   by_cases hlt:k<128
   ·have hl:=zbo l k
    obtain ⟨d,hd⟩:∃ d,k/8=d:=⟨_,rfl⟩
    have hd16:d<16:=by omega
    have hck:wr.cell? ⟨g+1,d,none⟩=some (.int .u64 ((wG (zaQ l k) d).toNat:Int)):=by rw [cell_of_row _ _ _ _ _ _ HB1.out,zba _ _ (by omega)]
    have hfz:wr.frozen? ⟨g+1,d,none⟩=false:=by have:=HB1.out;simp [World.frozen?,this]
    obtain ⟨bb,oo,rfl,hc0⟩:=HS.out.at_ (k:=k) (by rw [HL.out];exact hlt)
    have hc:wr.cell? ⟨bb,oo+k,none⟩=some (.int .u8 ((l.getD k 0).toNat:Int)):=by
     have hlt:=World.block_lt_of_cell? w _ hc0
     rw [HBE.out.cell (by rw [HG.out] at hlt;exact hlt)];exact hc0
    have hset:(zaQ l k).set d (pushB (wG (zaQ l k) d) (l.getD k 0))=zaQ l (k+1):=by rw [zaQ,hd]
    generalize wG (zaQ l k) d=x at *
    generalize l.getD k 0=b at *
    obtain ⟨nx,hnx⟩:∃ nx,pushB x b=nx:=⟨_,rfl⟩
    rw [hnx] at hset
    have hbl:=b.toNat_lt
    have f1:=shl_w x 8
    have f2:=or_w (x <<< 8) (BitVec.ofNat 64 b.toNat)
    have f3:x <<< 8 ||| BitVec.ofNat 64 b.toNat=nx:=hnx
    rw [push_nat,f3] at f2
    generalize x <<< 8=y at *
    have f4:IntKind.u64.wrap ((x.toNat:Int)*256)=(y.toNat:Int):=f1
    have f5:IntKind.u64.wrap (b.toNat:Int)=(b.toNat:Int):=by rw [IntKind.wrap_u64];omega
    have t1:(k:Int).tdiv 8=(d:Int):=by rw [Int.tdiv_eq_ediv_of_nonneg (by omega)];omega
    have t2:(k:Int)/8=(d:Int):=by omega
    have t3:IntKind.i64.wrap (d:Int)=(d:Int):=by rw [IntKind.wrap_i64];omega
    have p1:0≤(d:Int):=by omega
    have p2:(d:Int)<16:=by omega
    have p3:0≤(k:Int):=by omega
    have p4:(k:Int)<128:=by omega
    have HN:Hid ((wr.setCell ⟨g+1,d,none⟩ (.int .u64 (nx.toNat:Int))).heap[g]?=some (.cells t0 136 (0,0))) ∧
      Hid ((wr.setCell ⟨g+1,d,none⟩ (.int .u64 (nx.toNat:Int))).heap[g+1]?=some (.cells (tabW (zaQ l (k+1))) 136 (0,0)))∧Hid (Below g w (wr.setCell ⟨g+1,d,none⟩ (.int .u64 (nx.toNat:Int)))):=by
     have e:=setCell_eq_setRow wr (g+1) d _ _ _ (.int .u64 (nx.toNat:Int)) HB1.out
     refine ⟨yh ?_,yh ?_,yh (HBE.out.setCell (p:=⟨g+1,d,none⟩) (by show g≤g+1;omega) _)⟩
     ·rw [e,setRow_other _ _ _ _ (by omega)];exact HB0.out
     ·rw [e,setRow_heap _ _ _ _ _ _ (show wr.heap[g+1]?=_ from HB1.out),tabW_set,hset]
    obtain ⟨n1,n2,n3⟩:=HN
    clear hset hnx hl HB0 HB1 HBE f1 f3 hc0
    go_wp2_with fail
    go_roundw
    case rel=>exact ⟨k+1,by omega,by go_num,n1,n2,n3⟩
    case measure=>simp [intOf];omega
   ·obtain rfl:k=128:=by omega
    have h1:=HB1.out
    have h0:=HB0.out
    have s1:(Tryz.prog.info? 136).map (·.size)=some (tabW (zaQ l 128)).size:=by rw [zan,zbo];kernel_rfl
    have sz:t0.size=(tabW (zaQ l 128)).size:=by rw [ht0s,zan,zbo]
    have o1:=zaW (zaQ l 128)
    have HB:=yh (show Below w.heap.size w (wr.setRow g (tabW (zaQ l 128))) by
     rw [HG.out]
     exact zax HBE.out (Nat.le_refl _))
    obtain ⟨t1,ht1⟩:∃ t1,tabW (zaQ l 128)=t1:=⟨_,rfl⟩
    rw [ht1] at h1 s1 sz o1 HB
    have HT1:=yh ht1
    clear ht1 HB0 HB1 HBE
    go_wp2_with (first
     | (refine yi h1 Tryz.underlying136 s1 ?_)
     | (refine yj t1 h0 s1 sz o1 ?_))
    (try simp only [Exit.inBlock,Exit.then])
    refine bodyPost_ret (zbC rfl _ _ g _ t1 _ _ _ rfl rfl (setRow_heap wr _ _ _ _ _ h0) Tryz.underlying136 rfl s1) rfl ?_
    exact ⟨by unfold zbf;rw [HT1.out];rfl,HB.out⟩
 ·rw [if_neg hlen]
  have hd:decide (l.length=128)=false:=by simp [hlen]
  have hi:¬ ((l.length:Nat):Int)=128:=by omega
  rw [hd,HT.out]
  clear hd hbs hlen
  generalize l.length=n at *
  have HB:Hid (Below w.heap.size w (((w.alloc (.cells t0 136)).alloc (.cells t0 136)).setRow w.heap.size t0)):=yh (zax hbe0 (Nat.le_refl _))
  go_enter Tryz.func104,Tryz.ntmps104
  go_wp2_with (first
   | (refine yi h2 Tryz.underlying136 s0 ?_)
   | (refine yj t0 h0 s0 rfl o0 ?_))
  (try simp only [Exit.inBlock,Exit.then])
  refine bodyPost_ret (zbC rfl _ _ w.heap.size _ t0 _ _ _ rfl rfl (setRow_heap _ _ _ _ _ _ h0) Tryz.underlying136 rfl s0) rfl ?_
  exact ⟨rfl,HB.out⟩
theorem sch_whole (m:List W64) (hm:m.length=16):sch m 16=m:=by
 apply List.ext_getElem (by rw [zbp,hm])
 intro i h1 h2
 have h:=sch_first m (i:=i) (k:=16) (by rw [zbp] at h1;exact h1) (by rw [zbp] at h1;exact h1)
 unfold wG at h
 simp only [List.getD,List.getElem?_eq_getElem h1,List.getElem?_eq_getElem h2,Option.getD_some] at h
 exact h
theorem psched_any (m:List W64) (hm:m.length=16) (w:World) :
  Calls Tryz.prog 141 #[.agg (tabW m)] w fun e w'=>e=.returned (.agg (tabW (sch m 80)))∧Below w.heap.size w w':=by
 have hz:=fun u=>zbj 80 80 (by kernel_rfl) u
 have sM:(Tryz.prog.info? 136).map (·.size)=some (tabW m).size:=by rw [zan,hm];kernel_rfl
 have hMs:(tabW m).size=16:=by rw [zan,hm]
 have oM:(tabW m).all (·.oneCell')=true:=zaW _
 have hst:((tabW m).toList++(tabW (List.replicate 80 0)).toList.drop (tabW m).size).toArray=tabW (zby m 16):=by
  rw [hMs]
  unfold zby tabW
  rw [sch_whole m hm]
  simp
 obtain ⟨M,hM⟩:∃ M,tabW m=M:=⟨_,rfl⟩
 obtain ⟨t0,ht0⟩:∃ t0,tabW (List.replicate 80 0)=t0:=⟨_,rfl⟩
 have ht0s:t0.size=80:=by rw [← ht0,zan];simp
 rw [ht0] at hz
 rw [ht0,hM] at hst
 rw [hM] at sM hMs oM ⊢
 have h2:(((w.alloc (.cells M 136)).alloc (.cells t0 80)).alloc (.cells t0 80)).heap[w.heap.size+1+1]?=some (.cells t0 80 (0,0)):=by
  have:=heap_alloc_new ((w.alloc (.cells M 136)).alloc (.cells t0 80)) (.cells t0 80)
  rwa [World.size_alloc,World.size_alloc] at this
 have h1:(((w.alloc (.cells M 136)).alloc (.cells t0 80)).alloc (.cells t0 80)).heap[w.heap.size+1]?=some (.cells t0 80 (0,0)):=by
  rw [heap_alloc_old _ _ (by rw [World.size_alloc,World.size_alloc];omega)]
  have:=heap_alloc_new (w.alloc (.cells M 136)) (.cells t0 80)
  rwa [World.size_alloc] at this
 have h0:(((w.alloc (.cells M 136)).alloc (.cells t0 80)).alloc (.cells t0 80)).heap[w.heap.size]?=some (.cells M 136 (0,0)):=by
  rw [heap_alloc_old _ _ (by rw [World.size_alloc,World.size_alloc];omega),heap_alloc_old _ _ (by rw [World.size_alloc];omega)]
  exact heap_alloc_new w _
 have hbe:Below w.heap.size w (((w.alloc (.cells M 136)).alloc (.cells t0 80)).alloc (.cells t0 80)):=zad (zad (zad (Below.refl _ w) _) _) _
 have s0:(Tryz.prog.info? 80).map (·.size)=some t0.size:=by rw [ht0s];kernel_rfl
 have o0:t0.all (·.oneCell')=true:=by rw [← ht0];exact zaW _
 have HM:=yh hM
 have HT:=yh ht0
 have HST:=yh hst
 clear hM ht0 hst
 have H0:=yh h0
 have H1:=yh h1
 have H2:=yh h2
 have HBE0:=yh hbe
 clear h0 h1 h2 hbe
 go_enter Tryz.func141,Tryz.ntmps141
 go_wp2_with fail
 obtain ⟨W0,hW0⟩:∃ W,((w.alloc (.cells M 136)).alloc (.cells t0 80)).alloc (.cells t0 80)=W:=⟨_,rfl⟩
 obtain ⟨g,hg⟩:∃ g,w.heap.size=g:=⟨_,rfl⟩
 rw [hW0,hg] at H0 H1 H2 HBE0
 have HG:=yh hg
 rw [hW0,hg]
 clear hW0 hg
 refine wp_region_still_tail 2 (by kernel_rfl) (by kernel_rfl) ?_
 simp only [List.take_succ_cons,List.take_zero,List.drop_succ_cons,List.drop_zero]
 iterate 2 still_step
 refine wpStill_nil ?_
 refine wpList_copy_row rfl (.tmp 5) (.tmp 6) 128 128 rfl 61 Tryz.underlying128 (by kernel_rfl) (g+1+1) 80 80 g 16 16 rfl rfl t0 M 80 136 H2.out H0.out hMs.symm (by rw [hMs];omega) (by rw [hMs,ht0s];omega) oM ?_
 rw [HST.out]
 obtain ⟨W1,hW1⟩:∃ W,({ W0 with drawn:=W0.drawn+1 }:World).setRow (g+1+1) (tabW (zby m 16))=W:=⟨_,rfl⟩
 have HB2:Hid (W1.heap[g+1+1]?=some (.cells (tabW (zby m 16)) 80 (0,0))):=yh (by rw [← hW1];exact setRow_heap _ _ _ _ _ _ H2.out)
 have HB1:Hid (W1.heap[g+1]?=some (.cells t0 80 (0,0))):=yh (by rw [← hW1,setRow_other _ _ _ _ (by omega)];exact H1.out)
 have HBE:Hid (Below g w W1):=yh (by rw [← hW1];exact zax (zaS HBE0.out 1) (by omega))
 rw [hW1]
 clear hW1 H0 H1 H2 HBE0
 have HR0:Hid (∀ (x:W64) (W:World),Calls Tryz.prog 164 #[.int .u64 (x.toNat:Int)] W fun e w'=>e=.returned (.int .u64 ((sig0 x).toNat:Int))∧w'=W):=yh fun x W=>small0_any x W
 have HR1:Hid (∀ (x:W64) (W:World),Calls Tryz.prog 163 #[.int .u64 (x.toNat:Int)] W fun e w'=>e=.returned (.int .u64 ((sig1 x).toNat:Int))∧w'=W):=yh fun x W=>small1_any x W
 go_wp2_with fail
 go_loopw [4] (fun i wr=>∃ k:Nat,16≤k∧k≤80∧i=.int .i64 (k:Int)∧Hid (wr.heap[g+1]?=some (.cells t0 80 (0,0))) ∧
   Hid (wr.heap[g+1+1]?=some (.cells (tabW (zby m k)) 80 (0,0)))∧Hid (Below g w wr)) (fun i _=>80-(intOf i).toNat)
 case atStart=>exact ⟨16,by omega,by omega,rfl,HB1,HB2,HBE⟩
 case round =>
  clear HB1 HB2 HBE
  obtain ⟨k,hk16,hk,rfl,HB1,HB2,HBE⟩:=hrel
  by_cases hlt:k<80
  ·have hl:=schTab_len m hk
   have hck:wr.cell? ⟨g+1+1,k,none⟩=some (.int .u64 ((wG (zby m k) k).toNat:Int)):=by rw [cell_of_row _ _ _ _ _ _ HB2.out,zba _ _ (by omega)]
   have hfz:wr.frozen? ⟨g+1+1,k,none⟩=false:=by have:=HB2.out;simp [World.frozen?,this]
   have hset:=schTab_set m hlt
   obtain ⟨nx,hnx⟩:∃ nx,schNext m (sch m k) k=nx:=⟨_,rfl⟩
   rw [hnx] at hset
   have HN:Hid (((wr.drewN 1).setCell ⟨g+1+1,k,none⟩ (.int .u64 (nx.toNat:Int))).heap[g+1]?=some (.cells t0 80 (0,0))) ∧
     Hid (((wr.drewN 1).setCell ⟨g+1+1,k,none⟩ (.int .u64 (nx.toNat:Int))).heap[g+1+1]?=some (.cells (tabW (zby m (k+1))) 80 (0,0)))∧Hid (Below g w ((wr.drewN 1).setCell ⟨g+1+1,k,none⟩ (.int .u64 (nx.toNat:Int)))):=by
    have e:=setCell_eq_setRow (wr.drewN 1) (g+1+1) k _ _ _ (.int .u64 (nx.toNat:Int)) HB2.out
    refine ⟨yh ?_,yh ?_,yh ((zaS HBE.out 1).setCell (p:=⟨g+1+1,k,none⟩) (by show g≤g+1+1;omega) _)⟩
    ·rw [e,setRow_other _ _ _ _ (by omega)];exact HB1.out
    ·rw [e,setRow_heap _ _ _ _ _ _ (show (wr.drewN 1).heap[g+1+1]?=_ from HB2.out),tabW_set,hset]
   generalize (wG (zby m k) k).toNat=old at *
   have cell:∀ j,j<k→wr.cell? ⟨g+1+1,j,none⟩=some (.int .u64 ((wG (sch m k) j).toNat:Int)):=fun j hj=>by
    rw [cell_of_row _ _ _ _ _ _ HB2.out,zba _ _ (by omega),schTab_get m hj]
   obtain ⟨i15,e15⟩:∃ i,k-15=i:=⟨_,rfl⟩
   obtain ⟨i2,e2⟩:∃ i,k-2=i:=⟨_,rfl⟩
   obtain ⟨i7,e7⟩:∃ i,k-7=i:=⟨_,rfl⟩
   obtain ⟨i16,e16⟩:∃ i,k-16=i:=⟨_,rfl⟩
   have c15:=cell i15 (by omega)
   have c2:=cell i2 (by omega)
   have c7:=cell i7 (by omega)
   have c16:=cell i16 (by omega)
   unfold schNext at hnx
   rw [if_neg (by omega),e15,e2,e7,e16] at hnx
   have j15:(k:Int)-15=(i15:Int):=by omega
   have j2:(k:Int)-2=(i2:Int):=by omega
   have j7:(k:Int)-7=(i7:Int):=by omega
   have j16:(k:Int)-16=(i16:Int):=by omega
   have w15:IntKind.i64.wrap (i15:Int)=(i15:Int):=by rw [IntKind.wrap_i64];omega
   have w2:IntKind.i64.wrap (i2:Int)=(i2:Int):=by rw [IntKind.wrap_i64];omega
   have w7:IntKind.i64.wrap (i7:Int)=(i7:Int):=by rw [IntKind.wrap_i64];omega
   have w16:IntKind.i64.wrap (i16:Int)=(i16:Int):=by rw [IntKind.wrap_i64];omega
   have m15:(i15:Int)<80:=by omega
   have m2:(i2:Int)<80:=by omega
   have m7:(i7:Int)<80:=by omega
   have m16:(i16:Int)<80:=by omega
   have mk:(k:Int)<80:=by omega
   have p15:0≤(i15:Int):=by omega
   have p2:0≤(i2:Int):=by omega
   have p7:0≤(i7:Int):=by omega
   have p16:0≤(i16:Int):=by omega
   have pk:0≤(k:Int):=by omega
   generalize wG (sch m k) i15=x15 at *
   generalize wG (sch m k) i2=x2 at *
   generalize wG (sch m k) i7=x7 at *
   generalize wG (sch m k) i16=x16 at *
   have R1:=yh (HR1.out x2)
   have R0:=yh (HR0.out x15)
   generalize sig1 x2=u2 at *
   generalize sig0 x15=u4 at *
   have f7:=add_w u2 x7
   generalize u2+x7=u5 at *
   have f8:=add_w u5 u4
   generalize u5+u4=u6 at *
   have f9:=add_w u6 x16
   rw [hnx] at f9
   obtain ⟨n1,n2,n3⟩:=HN
   clear hset hnx hl HB1 HB2 HBE HR0 HR1 cell e15 e2 e7 e16
   go_wp2_with fail
   refine wp_region_still_tail 23 (by kernel_rfl) (by kernel_rfl) ?_
   simp only [List.take_succ_cons,List.take_zero,List.drop_succ_cons,List.drop_zero]
   iterate 5 still_step
   still_call (R1.out _)
   iterate 9 still_step
   still_call (R0.out _)
   iterate 7 still_step
   refine wpStill_nil ?_
   go_wp2_with fail
   go_roundw
   case rel=>exact ⟨k+1,by omega,by omega,by go_num,n1,n2,n3⟩
   case measure=>simp [intOf];omega
  ·obtain rfl:k=80:=by omega
   have h1:=HB2.out
   have h0:=HB1.out
   rw [schTab_end] at h1
   have s1:(Tryz.prog.info? 80).map (·.size)=some (tabW (sch m 80)).size:=by rw [zan,zbp];kernel_rfl
   have sz:t0.size=(tabW (sch m 80)).size:=by rw [ht0s,zan,zbp]
   have o1:=zaW (sch m 80)
   have HB:=yh (show Below w.heap.size w (wr.setRow (g+1) (tabW (sch m 80))) by
    rw [HG.out]
    exact zax HBE.out (by omega))
   obtain ⟨t1,ht1⟩:∃ t1,tabW (sch m 80)=t1:=⟨_,rfl⟩
   rw [ht1] at h1 s1 sz o1 HB
   have HT1:=yh ht1
   clear ht1 HB1 HB2 HBE HR0 HR1
   go_wp2_with (first
    | (refine yi h1 Tryz.underlying80 s1 ?_)
    | (refine yj t1 h0 s1 sz o1 ?_))
   (try simp only [Exit.inBlock,Exit.then])
   refine bodyPost_ret (results_cell_row rfl _ _ (g+1) _ t1 _ _ rfl (setRow_heap wr _ _ _ _ _ h0) Tryz.underlying80 rfl s1) rfl ?_
   exact ⟨by rw [HT1.out],HB.out⟩
structure StepP (w wr:World) (g gW:Nat) (KK S z8 WW:Array Value):Prop where
 low:g+1+1+1<gW
 ks:wr.heap[g]?=some (.cells KK 80 (0,0))
 s:wr.heap[g+1]?=some (.cells S 87 (0,0))
 z:wr.heap[g+1+1+1]?=some (.cells z8 87 (0,0))
 ws:wr.heap[gW]?=some (.cells WW 80 (0,0))
 below:Below g w wr
theorem StepP.drewN {w wr:World} {g gW:Nat} {KK S z8 WW:Array Value} (h:StepP w wr g gW KK S z8 WW) (q:Nat):StepP w (wr.drewN q) g gW KK S z8 WW :=
 ⟨h.low,h.ks,h.s,h.z,h.ws,zaS h.below q⟩
theorem stOne_big (v:St) (k w:W64):stOne v k w=v.h+bigE v.e+chW v.e v.f v.g+k+w:=rfl
theorem stTwo_big (v:St):stTwo v=bigA v.a+majW v.a v.b v.c:=rfl
theorem pwith_any (ks:List W64) (hk:ks.length=80) (s:St) (m:List W64) (hm:m.length=16) (w:World) :
    Calls Tryz.prog 105 #[.agg (tabW ks),.agg (tabW s.l),.agg (tabW m)] w fun e w'=>e=.returned (.agg (tabW (stepW ks s m).l))∧Below w.heap.size w w':=by
  have hz8:=fun u=>zbj 87 8 (by kernel_rfl) u
  have hz80:=fun u=>zbj 80 80 (by kernel_rfl) u
  obtain ⟨S,hS⟩:∃ t,tabW s.l=t:=⟨_,rfl⟩
  obtain ⟨M,hM⟩:∃ t,tabW m=t:=⟨_,rfl⟩
  obtain ⟨z8,hz8e⟩:∃ t,tabW (List.replicate 8 0)=t:=⟨_,rfl⟩
  obtain ⟨z80,hz80e⟩:∃ t,tabW (List.replicate 80 0)=t:=⟨_,rfl⟩
  obtain ⟨WW,hWW⟩:∃ t,tabW (sch m 80)=t:=⟨_,rfl⟩
  obtain ⟨KK,hKK⟩:∃ t,tabW ks=t:=⟨_,rfl⟩
  have nS:S.size=8:=by rw [← hS,zan];rfl
  have nM:M.size=16:=by rw [← hM,zan,hm]
  have n8:z8.size=8:=by rw [← hz8e,zan];simp
  have n80:z80.size=80:=by rw [← hz80e,zan];simp
  have nW:WW.size=80:=by rw [← hWW,zan,zbp]
  have oW:WW.all (·.oneCell')=true:=by rw [← hWW];exact zaW _
  have iM:(Tryz.prog.info? 136).map (·.size)=some M.size:=by rw [nM];kernel_rfl
  have iW:(Tryz.prog.info? 80).map (·.size)=some WW.size:=by rw [nW];kernel_rfl
  have HSch:Hid (∀ W:World,Calls Tryz.prog 141 #[.agg M] W fun e w'=>e=.returned (.agg WW)∧Below W.heap.size W w'):=yh (by rw [← hM,← hWW];exact fun W=>psched_any m hm W)
  have HCH:Hid (∀ (x y z:W64) (W:World),Calls Tryz.prog 143 #[.int .u64 (x.toNat:Int),.int .u64 (y.toNat:Int),.int .u64 (z.toNat:Int)] W fun e w'=>e=.returned (.int .u64 ((chW x y z).toNat:Int))∧w'=W):=yh fun x y z W=>pch_any x y z W
  have HMA:Hid (∀ (x y z:W64) (W:World),Calls Tryz.prog 145 #[.int .u64 (x.toNat:Int),.int .u64 (y.toNat:Int),.int .u64 (z.toNat:Int)] W fun e w'=>e=.returned (.int .u64 ((majW x y z).toNat:Int))∧w'=W):=yh fun x y z W=>pmaj_any x y z W
  have HB0:Hid (∀ (x:W64) (W:World),Calls Tryz.prog 144 #[.int .u64 (x.toNat:Int)] W fun e w'=>e=.returned (.int .u64 ((bigA x).toNat:Int))∧w'=W):=yh fun x W=>big0_any x W
  have HB1:Hid (∀ (x:W64) (W:World),Calls Tryz.prog 142 #[.int .u64 (x.toNat:Int)] W fun e w'=>e=.returned (.int .u64 ((bigE x).toNat:Int))∧w'=W):=yh fun x W=>big1_any x W
  rw [hS,hM,hKK]
  rw [hz8e] at hz8
  rw [hz80e] at hz80
  have HS:=yh hS
  have HWW:=yh hWW
  have HKK:=yh hKK
  have HKL:=yh hk
  clear hS hM hz8e hz80e hWW hKK hk
  obtain ⟨W0,hW0⟩:∃ W,(((w.alloc (.cells KK 80)).alloc (.cells S 87)).alloc (.cells M 136)).alloc (.cells z8 87)=W:=⟨_,rfl⟩
  have z0:(w.alloc (.cells KK 80)).heap.size=w.heap.size+1:=World.size_alloc _ _
  have z1:((w.alloc (.cells KK 80)).alloc (.cells S 87)).heap.size=w.heap.size+1+1:=by rw [World.size_alloc,z0]
  have z2:(((w.alloc (.cells KK 80)).alloc (.cells S 87)).alloc (.cells M 136)).heap.size=w.heap.size+1+1+1:=by rw [World.size_alloc,z1]
  have z3:W0.heap.size=w.heap.size+1+1+1+1:=by rw [← hW0,World.size_alloc,z2]
  have a0:W0.heap[w.heap.size]?=some (.cells KK 80 (0,0)):=by
    rw [← hW0,heap_alloc_old _ _ (by rw [z2];omega),heap_alloc_old _ _ (by rw [z1];omega),heap_alloc_old _ _ (by rw [z0];omega)]
    exact heap_alloc_new _ _
  have a1:W0.heap[w.heap.size+1]?=some (.cells S 87 (0,0)):=by
    rw [← hW0,heap_alloc_old _ _ (by rw [z2];omega),heap_alloc_old _ _ (by rw [z1];omega),← z0]
    exact heap_alloc_new _ _
  have a2:W0.heap[w.heap.size+1+1]?=some (.cells M 136 (0,0)):=by
    rw [← hW0,heap_alloc_old _ _ (by rw [z2];omega),← z1]
    exact heap_alloc_new _ _
  have a3:W0.heap[w.heap.size+1+1+1]?=some (.cells z8 87 (0,0)):=by
    rw [← hW0,← z2]
    exact heap_alloc_new _ _
  have ab:Below w.heap.size w W0:=by rw [← hW0];exact zad (zad (zad (zad (Below.refl _ w) _) _) _) _
  have hM0:((((w.alloc (.cells KK 80)).alloc (.cells S 87)).alloc (.cells M 136)).alloc (.cells z8 87)).heap[w.heap.size+1+1]?=some (.cells M 136 (0,0)):=by rw [hW0];exact a2
  have A0:=yh a0
  have A1:=yh a1
  have A3:=yh a3
  have AB:=yh ab
  have AS:=yh z3
  have HW0:=yh hW0
  clear a0 a1 a2 a3 ab z0 z1 z2 z3 hW0
  go_enter Tryz.func105,Tryz.ntmps105
  go_wp2_with (refine yi hM0 Tryz.underlying136 iM ?_)
  rw [HW0.out]
  with_reducible refine (HSch.out _).mono ?_
  rintro e w1 ⟨rfl,hb1⟩
  have hs1:w.heap.size+1+1+1+1≤w1.heap.size:=by have:=hb1.size;rwa [AS.out] at this
  have b0:=hb1.block w.heap.size (by rw [AS.out];omega)
  rw [A0.out] at b0
  have b1:=hb1.block (w.heap.size+1) (by rw [AS.out];omega)
  rw [A1.out] at b1
  have b3:=hb1.block (w.heap.size+1+1+1) (by rw [AS.out];omega)
  rw [A3.out] at b3
  have bb:Below w.heap.size w w1:=zaa AB.out hb1
  have hW0:(w1.alloc (.cells z80 80)).heap[w1.heap.size]?=some (.cells z80 80 (0,0)):=heap_alloc_new _ _
  have zW:z80.size=WW.size:=by rw [n80,nW]
  have HI:Hid (StepP w ((w1.alloc (.cells z80 80)).setRow w1.heap.size WW) w.heap.size w1.heap.size KK S z8 WW):=by
    refine yh ⟨by omega,?_,?_,?_,setRow_heap _ _ _ _ _ _ hW0,zax (zad bb _) (by omega)⟩
    · rw [setRow_other _ _ _ _ (by omega),heap_alloc_old _ _ (by omega)];exact b0
    · rw [setRow_other _ _ _ _ (by omega),heap_alloc_old _ _ (by omega)];exact b1
    · rw [setRow_other _ _ _ _ (by omega),heap_alloc_old _ _ (by omega)];exact b3
  clear hs1 b0 b1 b3 bb hb1 A0 A1 A3 AB AS HW0 hM0 HSch
  go_wp2_with (refine yj WW hW0 iW zW oW ?_)
  obtain ⟨W4,hW4⟩:∃ W,(w1.alloc (.cells z80 80)).setRow w1.heap.size WW=W:=⟨_,rfl⟩
  obtain ⟨g,hg⟩:∃ g,w.heap.size=g:=⟨_,rfl⟩
  obtain ⟨gW,hgW⟩:∃ g,w1.heap.size=g:=⟨_,rfl⟩
  rw [hW4,hg,hgW] at HI
  rw [hW4,hg,hgW]
  have HG:=yh hg
  clear hW0 hW4 hg hgW
  obtain ⟨sa,sb,sc,sd,se,sf,sy,sz⟩:=s
  have cs:∀ j,j<8→W4.cell? ⟨g+1,j,none⟩=some (.int .u64 ((wG [sa,sb,sc,sd,se,sf,sy,sz] j).toNat:Int)):=fun j hj=>by rw [cell_of_row _ _ _ _ _ _ HI.out.s,← HS.out,zba _ _ hj];rfl
  have c0:W4.cell? ⟨g+1,0,none⟩=some (.int .u64 (sa.toNat:Int)):=cs 0 (by omega)
  have c1:W4.cell? ⟨g+1,1,none⟩=some (.int .u64 (sb.toNat:Int)):=cs 1 (by omega)
  have c2:W4.cell? ⟨g+1,2,none⟩=some (.int .u64 (sc.toNat:Int)):=cs 2 (by omega)
  have c3:W4.cell? ⟨g+1,3,none⟩=some (.int .u64 (sd.toNat:Int)):=cs 3 (by omega)
  have c4:W4.cell? ⟨g+1,4,none⟩=some (.int .u64 (se.toNat:Int)):=cs 4 (by omega)
  have c5:W4.cell? ⟨g+1,5,none⟩=some (.int .u64 (sf.toNat:Int)):=cs 5 (by omega)
  have c6:W4.cell? ⟨g+1,6,none⟩=some (.int .u64 (sy.toNat:Int)):=cs 6 (by omega)
  have c7:W4.cell? ⟨g+1,7,none⟩=some (.int .u64 (sz.toNat:Int)):=cs 7 (by omega)
  clear cs
  go_quiet (fail)
  obtain ⟨W5,hW5⟩:∃ W,W4.drewN nq=W:=⟨_,rfl⟩
  have HI2:Hid (StepP w W5 g gW KK S z8 WW):=yh (by rw [← hW5];exact HI.out.drewN nq)
  clear HI c0 c1 c2 c3 c4 c5 c6 c7
  rw [hW5]
  go_wp2_with fail
  go_loopw [8,9,10,11,12,13,14,15,37] (fun a b c d e f y z i wr=>∃ k:Nat,k≤80∧i=.int .i64 (k:Int)∧∃ v:St,rounds ks (sch m 80) ⟨sa,sb,sc,sd,se,sf,sy,sz⟩ k=v ∧
      a=.int .u64 (v.a.toNat:Int)∧b=.int .u64 (v.b.toNat:Int)∧c=.int .u64 (v.c.toNat:Int)∧d=.int .u64 (v.d.toNat:Int)∧e=.int .u64 (v.e.toNat:Int)∧f=.int .u64 (v.f.toNat:Int)∧y=.int .u64 (v.g.toNat:Int)∧z=.int .u64 (v.h.toNat:Int) ∧
      Hid (StepP w wr g gW KK S z8 WW)) (fun _ _ _ _ _ _ _ _ i _=>80-(intOf i).toNat)
  case atStart=>exact ⟨0,by omega,rfl,⟨sa,sb,sc,sd,se,sf,sy,sz⟩,rfl,rfl,rfl,rfl,rfl,rfl,rfl,rfl,rfl,HI2⟩
  case round =>
    clear HI2
    obtain ⟨k,hk,rfl,⟨a,b,c,d,e,f,y,z⟩,hv,rfl,rfl,rfl,rfl,rfl,rfl,rfl,rfl,HI⟩:=hrel
    by_cases hlt:k<80
    · obtain ⟨kw,hkw⟩:∃ x,wG ks k=x:=⟨_,rfl⟩
      obtain ⟨ww,hww⟩:∃ x,wG (sch m 80) k=x:=⟨_,rfl⟩
      have hv2:rounds ks (sch m 80) ⟨sa,sb,sc,sd,se,sf,sy,sz⟩ (k+1)=stNext ⟨a,b,c,d,e,f,y,z⟩ kw ww:=by rw [rounds,hv,hkw,hww]
      have ck:wr.cell? ⟨g,k,none⟩=some (.int .u64 (kw.toNat:Int)):=by rw [cell_of_row _ _ _ _ _ _ HI.out.ks,← HKK.out,zba _ _ (by rw [HKL.out];exact hlt),hkw]
      have cw:wr.cell? ⟨gW,k,none⟩=some (.int .u64 (ww.toNat:Int)):=by rw [cell_of_row _ _ _ _ _ _ HI.out.ws,← HWW.out,zba _ _ (by rw [zbp];exact hlt),hww]
      unfold stNext at hv2
      rw [stOne_big,stTwo_big] at hv2
      have R1:=yh (HB1.out e)
      have R2:=yh (HCH.out e f y)
      have R3:=yh (HB0.out a)
      have R4:=yh (HMA.out a b c)
      clear hkw hww hv
      simp only at hv2
      generalize bigE e=r1 at *
      generalize chW e f y=r2 at *
      generalize bigA a=r3 at *
      generalize majW a b c=r4 at *
      have f1:=add_w z r1
      generalize z+r1=u1 at *
      have f2:=add_w u1 r2
      generalize u1+r2=u2 at *
      have f3:=add_w u2 kw
      generalize u2+kw=u3 at *
      have f4:=add_w u3 ww
      generalize u3+ww=one at *
      have f5:=add_w r3 r4
      generalize r3+r4=two at *
      have f6:=add_w one two
      generalize one+two=n0 at *
      have f7:=add_w d one
      generalize d+one=n4 at *
      have HV:=yh hv2
      have p1:0≤(k:Int):=by omega
      have p2:(k:Int)<80:=by omega
      have HI2:=yh (HI.out.drewN 1)
      clear hv2 HI HB0 HB1 HCH HMA
      go_wp2_with fail
      refine wp_region_still_tail 17 (by kernel_rfl) (by kernel_rfl) ?_
      simp only [List.take_succ_cons,List.take_zero,List.drop_succ_cons,List.drop_zero]
      iterate 2 still_step
      still_call (R1.out _)
      iterate 4 still_step
      still_call (R2.out _)
      iterate 9 still_step
      refine wpStill_nil ?_
      go_wp2_with (first | ((with_reducible refine (R3.out _).mono ?_);rintro e w' ⟨rfl,rfl⟩) | ((with_reducible refine (R4.out _).mono ?_);rintro e w' ⟨rfl,rfl⟩))
      go_roundw
      case rel=>exact ⟨k+1,by omega,by go_num,_,HV.out,rfl,rfl,rfl,rfl,rfl,rfl,rfl,rfl,HI2⟩
      case measure=>simp [intOf];omega
    · have hk80:k=80:=by omega
      have hge:¬ (k:Int)<80:=by omega
      have hE:(stepW ks ⟨sa,sb,sc,sd,se,sf,sy,sz⟩ m).l=[sa+a,sb+b,sc+c,sd+d,se+e,sf+f,sy+y,sz+z]:=by
        have hv8:=hv
        rw [hk80] at hv8
        unfold stepW
        rw [hv8,BitVec.add_comm sa,BitVec.add_comm sb,BitVec.add_comm sc,BitVec.add_comm sd,BitVec.add_comm se,BitVec.add_comm sf,BitVec.add_comm sy,BitVec.add_comm sz]
        rfl
      have cs:∀ j,j<8→wr.cell? ⟨g+1,j,none⟩=some (.int .u64 ((wG [sa,sb,sc,sd,se,sf,sy,sz] j).toNat:Int)):=fun j hj=>by rw [cell_of_row _ _ _ _ _ _ HI.out.s,← HS.out,zba _ _ hj];rfl
      have c0:wr.cell? ⟨g+1,0,none⟩=some (.int .u64 (sa.toNat:Int)):=cs 0 (by omega)
      have c1:wr.cell? ⟨g+1,1,none⟩=some (.int .u64 (sb.toNat:Int)):=cs 1 (by omega)
      have c2:wr.cell? ⟨g+1,2,none⟩=some (.int .u64 (sc.toNat:Int)):=cs 2 (by omega)
      have c3:wr.cell? ⟨g+1,3,none⟩=some (.int .u64 (sd.toNat:Int)):=cs 3 (by omega)
      have c4:wr.cell? ⟨g+1,4,none⟩=some (.int .u64 (se.toNat:Int)):=cs 4 (by omega)
      have c5:wr.cell? ⟨g+1,5,none⟩=some (.int .u64 (sf.toNat:Int)):=cs 5 (by omega)
      have c6:wr.cell? ⟨g+1,6,none⟩=some (.int .u64 (sy.toNat:Int)):=cs 6 (by omega)
      have c7:wr.cell? ⟨g+1,7,none⟩=some (.int .u64 (sz.toNat:Int)):=cs 7 (by omega)
      have f0:=add_w sa a
      have f1:=add_w sb b
      have f2:=add_w sc c
      have f3:=add_w sd d
      have f4:=add_w se e
      have f5:=add_w sf f
      have f6:=add_w sy y
      have f7:=add_w sz z
      generalize sa+a=n0 at *
      generalize sb+b=n1 at *
      generalize sc+c=n2 at *
      generalize sd+d=n3 at *
      generalize se+e=n4 at *
      generalize sf+f=n5 at *
      generalize sy+y=n6 at *
      generalize sz+z=n7 at *
      obtain ⟨V,hV⟩:∃ V:Array Value,#[.int .u64 (n0.toNat:Int),.int .u64 (n1.toNat:Int),.int .u64 (n2.toNat:Int),.int .u64 (n3.toNat:Int),.int .u64 (n4.toNat:Int),.int .u64 (n5.toNat:Int),.int .u64 (n6.toNat:Int),.int .u64 (n7.toNat:Int)]=V:=⟨_,rfl⟩
      have nV:V.size=8:=by rw [← hV];rfl
      have oV:V.all (·.oneCell')=true:=by rw [← hV];exact zaW [n0,n1,n2,n3,n4,n5,n6,n7]
      have iV:(Tryz.prog.info? 87).map (·.size)=some V.size:=by rw [nV];kernel_rfl
      have sV:z8.size=V.size:=by rw [nV,n8]
      have HE:Hid (tabW (stepW ks ⟨sa,sb,sc,sd,se,sf,sy,sz⟩ m).l=V):=yh (by rw [hE,← hV];rfl)
      have h0:=HI.out.z
      have HB:=yh (show Below w.heap.size w (wr.setRow (g+1+1+1) V) by
        rw [HG.out]
        exact zax HI.out.below (by omega))
      have hB:=build_w z8 hz8 n8 n0.toNat n1.toNat n2.toNat n3.toNat n4.toNat n5.toNat n6.toNat n7.toNat wr
      rw [hV] at hB
      have HBB:=yh hB
      clear hB hV nV hE cs hv HI HB0 HB1 HCH HMA hk80
      go_wp2_with (first
        | (refine zaO (o:=⟨some 109,_,_,_,_,_⟩) rfl (.agg V) ?_ ?_
           · refine Eq.trans (b:=Sem.run Tryz.prog (do pure (Next.value (← Instr.build 87 #[(0,.int .u64 n0.toNat),(1,.int .u64 n1.toNat),(2,.int .u64 n2.toNat),(3,.int .u64 n3.toNat),(4,.int .u64 n4.toNat),(5,.int .u64 n5.toNat),(6,.int .u64 n6.toNat),(7,.int .u64 n7.toNat)]))) wr) (by kernel_rfl) (run_value HBB.out))
        | (refine yj V h0 iV sV oV ?_))
      (try simp only [Exit.inBlock,Exit.then])
      refine bodyPost_ret (results_cell_row rfl _ _ (g+1+1+1) _ V _ _ rfl (setRow_heap wr _ _ _ _ _ h0) Tryz.underlying87 rfl iV) rfl ?_
      exact ⟨by rw [HE.out],HB.out⟩
structure StepS (w W:World) (g:Nat) (S M:Array Value):Prop where
 s:W.heap[g]?=some (.cells S 87 (0,0))
 m:W.heap[g+1]?=some (.cells M 136 (0,0))
 z:∃ z:Array Value,z.size=8∧W.heap[g+1+1]?=some (.cells z 87 (0,0))
 below:Below g w W
theorem StepS.lt {w W:World} {g:Nat} {S M:Array Value} (h:StepS w W g S M):g+1+1<W.heap.size:=by
 obtain ⟨z,_,hz⟩:=h.z
 exact (Array.getElem?_eq_some_iff.1 hz).1
theorem StepS.call {w W W':World} {g:Nat} {S M:Array Value} (h:StepS w W g S M) (hb:Below W.heap.size W W'):StepS w W' g S M:=by
 have hl:=h.lt
 refine ⟨?_,?_,?_,h.below.trans (hb.mono (by omega))⟩
 ·rw [hb.block _ (by omega)];exact h.s
 ·rw [hb.block _ (by omega)];exact h.m
 ·rw [hb.block _ (by omega)];exact h.z
theorem StepS.drew {w W:World} {g:Nat} {S M:Array Value} (h:StepS w W g S M):StepS w W.drew g S M:=⟨h.s,h.m,h.z,h.below.drew⟩
theorem StepS.set {w W:World} {g:Nat} {S M:Array Value} (h:StepS w W g S M) {R:Array Value} (hR:R.size=8):StepS w (W.setRow (g+1+1) R) g S M:=by
 obtain ⟨z,_,hz⟩:=h.z
 exact ⟨by rw [setRow_other _ _ _ _ (by omega)];exact h.s,by rw [setRow_other _ _ _ _ (by omega)];exact h.m,⟨R,hR,setRow_heap _ _ _ _ _ _ hz⟩,zax h.below (by omega)⟩
theorem run_index_arrW {P:Program} {t e:TypeId} {n i:Nat} {v:Value} {w:World} {cs:Array Value} (k:IntKind) (h:P.underlying t=some (.array n e)) (hi:i<n)
  (ha:(isAgg e).run P w=.ok false w) (hs:(sizeOf e).run P w=.ok 1 w) (hv:cs[i]?=some v):(Instr.index t (.agg cs) (.int k (i:Int))).run P w=.ok v w:=by
 have h1:(0:Int)≤(i:Int)∧(i:Int)<(n:Int):=⟨by omega,by omega⟩
 simp [Instr.index,run_underlying h,asIntOf,h1,hi,go_sem,ha,hs,hv]
theorem hiB_take (x k:Nat) (hk:k<8):(hiB x).take (k+1)=(hiB x).take k++[UInt8.ofNat (x/2^(56-8*k))]:=by
 rw [List.take_add_one]
 congr 1
 simp [hiB,hk]
theorem happ_any (v:Value) (l:List UInt8) (base x:Nat) (w:World) (ho:Ob 5 w base v l) (hl:l.length≤100000) (hb:base≤w.heap.size) (hx:x<18446744073709551616) :
  Calls Tryz.prog 146 #[v,.int .u64 (x:Int)] w fun e w'=>∃ v',e=.returned v'∧Ob 5 w' base v' (l++hiB x)∧Below base w w':=by
 have Hpost:Hid (∀ v' w',Ob 5 w' base v' (l++hiB x)→Below base w w'→∃ v'',Ending.returned v'=.returned v''∧Ob 5 w' base v'' (l++hiB x)∧Below base w w'):=yh (fun v' w' ho hb=>⟨v',rfl,ho,hb⟩)
 have HO0:Hid (Ob 5 w base v (l++(hiB x).take 0)):=yh (by simpa using ho)
 have HL:=yh hl
 have HX:=yh hx
 have HB:=yh hb
 clear ho hl hx hb
 go_enter Tryz.func146,Tryz.ntmps146
 go_wp2
 go_loopw [0,5] (fun v i wr=>∃ k:Nat,k≤8∧i=.int .i64 (56-8*(k:Int))∧Hid (Ob 5 wr base v (l++(hiB x).take k))∧Hid (Below base w wr)) (fun _ i _=>(intOf i+8).toNat)
 case atStart=>exact ⟨0,by omega,rfl,HO0,yh (Below.refl _ _)⟩
 case round =>
  clear HO0
  obtain ⟨k,hk,rfl,HO,HBE⟩:=hrel
  by_cases hlt:k<8
  ·obtain ⟨s,hs⟩:∃ s,56-8*k=s:=⟨_,rfl⟩
   obtain ⟨q,hq⟩:∃ q,x/2^s=q:=⟨_,rfl⟩
   have hnx:=hiB_take x k hlt
   rw [hs,hq] at hnx
   have e1:56-8*(k:Int)=(s:Int):=by omega
   have e2:(s:Int)-8=56-8*((k+1:Nat):Int):=by omega
   have t3:(x:Int)/2^s=(q:Int):=by rw [← hq];simp
   have hql:q<18446744073709551616:=by rw [← hq];exact Nat.lt_of_le_of_lt (Nat.div_le_self _ _) HX.out
   have hs56:s≤56:=by omega
   obtain ⟨m,hm⟩:∃ m,l++(hiB x).take k=m:=⟨_,rfl⟩
   have hml:m.length≤100008:=by rw [← hm,List.length_append,List.length_take,zbL];have:=HL.out;omega
   have HN:Hid (l++(hiB x).take (k+1)=m++[UInt8.ofNat q]):=yh (by rw [hnx,← List.append_assoc,hm])
   rw [hm] at HO
   rw [e1]
   have HE2:=yh e2
   have HML:=yh hml
   have hbb:Bs (wr.alloc (.cells #[.int .u8 ((q:Int) % 256)] 5)) (some ⟨wr.heap.size,0,none⟩) [UInt8.ofNat q]:=fun _=>⟨_,_,rfl,fun j hj=>by
    have:j=0:=by simpa using hj
    subst this
    rw [cell_of_row _ _ _ _ _ _ (heap_alloc_new _ _)]
    simp⟩
   have HBB:=yh hbb
   have O1:=yh (Ob.below HO.out ((Below.refl _ wr).alloc (Nat.le_refl _) (.cells #[.int .u8 ((q:Int) % 256)] 5)))
   have HB1:Hid (Below base w (wr.alloc (.cells #[.int .u8 ((q:Int) % 256)] 5))):=yh (HBE.out.alloc (Nat.le_trans HB.out HBE.out.size) _)
   have HB1':Hid (base≤(wr.alloc (.cells #[.int .u8 ((q:Int) % 256)] 5)).heap.size):=yh (Nat.le_trans HB.out HB1.out.size)
   obtain ⟨A3,c3,rfl,-,-⟩:=HO.out.form
   clear hs hq hnx hm hml e1 e2 hbb HO HBE
   go_wp2_with (at_builtin;refine zay rfl (.tmp 10) (.tmp 15) 23 rfl base 5 Tryz.underlying23 info5 _ m rfl O1.out _ [UInt8.ofNat q] _ _ rfl rfl HBB.out (by have:=HML.out;simp;omega) HB1'.out ?_;intro v5 w5 ho5 hgr5;have HB5:=yh (HB1.out.grown hgr5 HB1'.out (fun k hk=>O1.out.fresh k (own_at hk)));have HO5:=yh ho5;clear ho5 hgr5)
   go_roundw
   case rel=>exact ⟨k+1,by omega,by rw [← HE2.out],by rw [HN.out];exact HO5,HB5⟩
   case measure=>simp [intOf];omega
  ·obtain rfl:k=8:=by omega
   have HO2:Hid (Ob 5 wr base u0 (l++hiB x)):=yh (by
    have:=HO.out
    rwa [show (hiB x).take 8=hiB x from List.take_of_length_le (by rw [zbL];omega)] at this)
   clear HO
   obtain ⟨A3,c3,rfl,-,-⟩:=HO2.out.form
   go_wp2
   go_ret
   exact Hpost.out _ _ HO2.out HBE.out
theorem hbytes_any (s:St) (w:World):Calls Tryz.prog 107 #[.agg (tabW s.l)] w (RetOb 5 w (bytesS s)):=by
 have Hpost:Hid (∀ v w',Ob 5 w' w.heap.size v (bytesS s)→Below w.heap.size w w'→RetOb 5 w (bytesS s) (.returned v) w'):=yh (fun v w' ho hb=>⟨v,rfl,ho,hb⟩)
 have hlist:∀ k,k≤8→((s.l.take k).flatMap fun x=>hiB x.toNat).length=8*k:=fun k hk=>by
  have:∀ l:List W64,(l.flatMap fun x=>hiB x.toNat).length=8*l.length:=fun l=>by
   induction l with
   | nil=>rfl
   | cons a l ih=>rw [List.flatMap_cons,List.length_append,ih,zbL,List.length_cons];omega
  rw [this,List.length_take,St.len];omega
 have HLI:=yh hlist
 have hget:∀ k,k<8→(tabW s.l)[k]?=some (.int .u64 ((wG s.l k).toNat:Int)):=fun k hk=>zba _ _ (by rw [St.len];exact hk)
 have hS8:(tabW s.l).size=8:=by rw [zan,St.len]
 obtain ⟨S,hS⟩:∃ t,tabW s.l=t:=⟨_,rfl⟩
 have h0:(w.alloc (.cells S 87)).heap[w.heap.size]?=some (.cells S 87 (0,0)):=heap_alloc_new _ _
 rw [hS] at hget hS8 ⊢
 have iS:(Tryz.prog.info? 87).map (·.size)=some S.size:=by rw [hS8];kernel_rfl
 have HGET:=yh hget
 obtain ⟨W1,hW1⟩:∃ W,w.alloc (.cells S 87)=W:=⟨_,rfl⟩
 have HB:Hid (Below w.heap.size w W1):=yh (by rw [← hW1];exact zad (Below.refl _ w) _)
 rw [hW1] at h0
 have HW1:=yh hW1
 clear hS hW1 hlist hget hS8
 go_enter Tryz.func107,Tryz.ntmps107
 go_wp2_with (refine yi (by rw [HW1.out];exact h0) Tryz.underlying87 iS ?_)
 rw [HW1.out]
 clear HW1 h0 iS
 go_loopw [3,7] (fun v i wr=>∃ k:Nat,k≤8∧i=.int .i64 (k:Int)∧Hid (Ob 5 wr W1.heap.size v ((s.l.take k).flatMap fun x=>hiB x.toNat))∧Hid (Below W1.heap.size W1 wr)) (fun _ i _=>8-(intOf i).toNat)
 case atStart=>exact ⟨0,by omega,rfl,yh (Ob.nil_ _ _ _),yh (Below.refl _ _)⟩
 case round =>
  obtain ⟨k,hk,rfl,HO,HBE⟩:=hrel
  by_cases hlt:k<8
  ·obtain ⟨x,hx⟩:∃ x,wG s.l k=x:=⟨_,rfl⟩
   have hix:∀ u:World,(Instr.index 87 (.agg S) (.int .i64 (k:Int))).run Tryz.prog u=.ok (.int .u64 (x.toNat:Int)) u:=fun u=>by
    refine run_index_arrW (e:=61) (n:=8) .i64 (by kernel_rfl) hlt (by kernel_rfl) (by kernel_rfl) ?_
    rw [HGET.out k hlt,hx]
   have hnx:((s.l.take (k+1)).flatMap fun x=>hiB x.toNat)=((s.l.take k).flatMap fun x=>hiB x.toNat)++hiB x.toNat:=by
    have e:s.l.take (k+1)=s.l.take k++[x]:=by
     have hl:=St.len s
     rw [List.take_add_one]
     congr 1
     rw [← hx]
     simp [wG,List.getD,List.getElem?_eq_getElem (show k<s.l.length by omega)]
    rw [e,List.flatMap_append]
    simp
   have HNX:=yh hnx
   have hlen:=HLI.out k hk
   obtain ⟨m,hm⟩:∃ m,((s.l.take k).flatMap fun x=>hiB x.toNat)=m:=⟨_,rfl⟩
   rw [hm] at HO HNX hlen
   have HAP:=yh (happ_any u3 m W1.heap.size x.toNat wr HO.out (by omega) HBE.out.size x.isLt)
   have p1:0≤(k:Int):=by omega
   have p2:(k:Int)<8:=by omega
   obtain ⟨A3,c3,rfl,-,-⟩:=HO.out.form
   clear hx hnx hm hlen HO
   go_wp2_with fail
   with_reducible refine HAP.out.mono ?_
   rintro e w4 ⟨v4,rfl,ho4,hb4⟩
   have HO5:=yh ho4
   have HB5:=yh (HBE.out.trans hb4)
   clear ho4 hb4 HBE HAP
   go_wp2_with fail
   go_roundw
   case rel=>exact ⟨k+1,by omega,by go_num,by rw [HNX.out];exact HO5,HB5⟩
   case measure=>simp [intOf];omega
  ·obtain rfl:k=8:=by omega
   have HO2:Hid (Ob 5 wr W1.heap.size u3 (bytesS s)):=yh (by
    have:=HO.out
    rwa [show s.l.take 8=s.l from List.take_of_length_le (by rw [St.len];omega)] at this)
   clear HO
   obtain ⟨A3,c3,rfl,-,-⟩:=HO2.out.form
   go_wp2_with fail
   go_ret
   exact Hpost.out _ _ (HO2.out.low HB.out.size) (zaa HB.out HBE.out)
theorem hpad_any (n:Nat) (w:World) (hn:n≤1152921504606866976):Calls Tryz.prog 106 #[.int .u64 (n:Int)] w (RetOb 5 w (padB n)):=by
 have Hpost:Hid (∀ v w',Ob 5 w' w.heap.size v (padB n)→Below w.heap.size w w'→RetOb 5 w (padB n) (.returned v) w'):=yh (fun v w' ho hb=>⟨v,rfl,ho,hb⟩)
 obtain ⟨Z,hZ⟩:∃ Z,(239-n % 128) % 128=Z:=⟨_,rfl⟩
 obtain ⟨x1,hx1⟩:∃ x,n/2^61=x:=⟨_,rfl⟩
 obtain ⟨x2,hx2⟩:∃ x,n*8 % 2^64=x:=⟨_,rfl⟩
 have hP:padB n=((128 :: List.replicate Z 0)++hiB x1)++hiB x2:=by unfold padB;rw [hZ,hx1,hx2];simp
 have HP:=yh hP
 have HZ:=yh hZ
 have hx1l:x1<18446744073709551616:=by omega
 have hx2l:x2<18446744073709551616:=by omega
 have HX1:=yh hx1l
 have HX2:=yh hx2l
 have t1:(n:Int)/2305843009213693952=(x1:Int):=by omega
 have t2:IntKind.u64.wrap ((n:Int)*8)=(x2:Int):=by rw [IntKind.wrap_u64];omega
 have hb0:Ob 5 (w.alloc (.cells #[.int .u8 128] 5)) w.heap.size (.slice (some ⟨w.heap.size,0,none⟩) 1 1) (128 :: List.replicate 0 0):=by
  refine ⟨by simp,.inr ⟨w.heap.size,1,_,by simp,Nat.le_refl _,heap_alloc_new _ _,by simp,by unfold maxLen;omega,by simp,by simp [bval]⟩⟩
 have HB0:Hid (Below w.heap.size w (w.alloc (.cells #[.int .u8 128] 5))):=yh (zad (Below.refl _ w) _)
 have HO0:=yh hb0
 have HN:=yh hn
 clear hP hZ hx1 hx2 hx1l hx2l hb0 hn
 go_enter Tryz.func106,Tryz.ntmps106
 go_wp2_with fail
 obtain ⟨W1,hW1⟩:∃ W,w.alloc (.cells #[.int .u8 128] 5)=W:=⟨_,rfl⟩
 rw [hW1] at HO0 HB0
 rw [hW1]
 clear hW1
 go_loopw [3] (fun v wr=>∃ k M:Nat,k≤Z∧M=k+1∧∃ A c,v=.slice A M c∧Hid (Ob 5 wr w.heap.size (.slice A M c) (128 :: List.replicate k 0))∧Hid (Below w.heap.size w wr)) (fun v _=>Z+1-sLen v)
 case atStart=>exact ⟨0,1,by omega,rfl,_,_,rfl,HO0,HB0⟩
 case round =>
  clear HO0 HB0
  obtain ⟨k,M,hk,hM,A,c,rfl,HO,HBE⟩:=hrel
  obtain ⟨S,hS⟩:∃ S,n+M=S:=⟨_,rfl⟩
  obtain ⟨r,hr⟩:∃ r,S % 128=r:=⟨_,rfl⟩
  have hz:=HZ.out
  have hn:=HN.out
  have hMl:M≤200:=by omega
  have t3:IntKind.u64.wrap ((n:Int)+(M:Int))=(S:Int):=by rw [IntKind.wrap_u64];omega
  have t4:(S:Int).tmod 128=(r:Int):=by rw [Int.tmod_eq_emod_of_nonneg (by omega)];omega
  have t5:(S:Int) % 128=(r:Int):=by omega
  have t6:IntKind.u64.wrap (M:Int)=(M:Int):=by rw [IntKind.wrap_u64];omega
  have t7:IntKind.u64.wrap (r:Int)=(r:Int):=by rw [IntKind.wrap_u64];omega
  have HM:=yh hM
  have HK:=yh hk
  by_cases hlt:k<Z
  ·have hne:¬ (r:Int)=112:=by omega
   have HM2:Hid (M+1=k+1+1):=yh (by omega)
   have HKZ:=yh hlt
   have hbb:Bs (wr.alloc (.cells #[.int .u8 0] 5)) (some ⟨wr.heap.size,0,none⟩) [0]:=fun _=>⟨_,_,rfl,fun j hj=>by
    have:j=0:=by simpa using hj
    subst this
    rw [cell_of_row _ _ _ _ _ _ (heap_alloc_new _ _)]
    simp⟩
   have HBB:=yh hbb
   have O1:=yh (Ob.below HO.out ((Below.refl _ wr).alloc (Nat.le_refl _) (.cells #[.int .u8 0] 5)))
   have HB1:Hid (Below w.heap.size w (wr.alloc (.cells #[.int .u8 0] 5))):=yh (zad HBE.out _)
   have HML:Hid (k≤1000):=yh (by omega)
   clear hS hr hz hn hM hk hlt hbb HO HBE
   go_wp2_with (at_builtin;refine zay rfl (.tmp 12) (.tmp 13) 23 rfl w.heap.size 5 Tryz.underlying23 info5 _ (128 :: List.replicate k 0) rfl O1.out _ [0] _ _ rfl rfl HBB.out (by have:=HML.out;simp;omega) HB1.out.size ?_;intro v5 w5 ho5 hgr5;rw [show (128 :: List.replicate k 0)++[0]=128 :: List.replicate (k+1) (0:UInt8) by rw [List.cons_append,← List.replicate_succ']] at ho5;have HB5:=yh (HB1.out.grown hgr5 HB1.out.size (fun k hk=>O1.out.fresh k (own_at hk)));obtain ⟨A5,c5,rfl,-,-⟩:=ho5.formL (n:=M+1) (by simp;have:=HM2.out;omega);have HO5:=yh ho5;clear ho5 hgr5)
   go_roundw
   case rel=>exact ⟨k+1,M+1,by have:=HKZ.out;omega,HM2.out,A5,c5,rfl,HO5,HB5⟩
   case measure=>simp [sLen];have:=HKZ.out;have:=HM.out;omega
  ·have he:(r:Int)=112:=by omega
   have hkZ:k=Z:=by omega
   have HO2:Hid (Ob 5 wr w.heap.size (.slice A M c) (128 :: List.replicate Z 0)):=yh (by have:=HO.out;rwa [hkZ] at this)
   have HAP:=yh (happ_any (.slice A M c) (128 :: List.replicate Z 0) w.heap.size x1 wr HO2.out (by simp;omega) HBE.out.size HX1.out)
   have HZl:Hid (Z≤127):=yh (by omega)
   clear hS hr hz hn hM hk hlt hkZ HO HO2
   go_wp2_with fail
   with_reducible refine HAP.out.mono ?_
   rintro e w4 ⟨v4,rfl,ho4,hb4⟩
   have HB4:=yh (HBE.out.trans hb4)
   have HAQ:=yh (happ_any v4 _ w.heap.size x2 w4 ho4 (by simp [zbL];have:=HZl.out;omega) HB4.out.size HX2.out)
   obtain ⟨M4,hM4⟩:∃ n,(128 :: List.replicate Z 0++hiB x1).length=n:=⟨_,rfl⟩
   obtain ⟨A4,c4,rfl,-,-⟩:=ho4.formL hM4
   clear ho4 hb4 HAP
   go_wp2_with fail
   with_reducible refine HAQ.out.mono ?_
   rintro e w5 ⟨v5,rfl,ho5,hb5⟩
   rw [← HP.out] at ho5
   have HO5:=yh ho5
   have HB5:=yh (HB4.out.trans hb5)
   clear ho5 hb5 HAQ
   go_wp2_with fail
   go_ret
   exact Hpost.out _ _ HO5.out HB5.out
theorem setCells_row {P:Program} {w:World} {g o:Nat} {t:TypeId} {cur:Array Value} {vs:List Value} (hg:w.heap[g]?=some (.cells cur t (0,0))) (hl:o+vs.length≤cur.size) (h1:∀ v ∈ vs,v.oneCell'=true) :
  w.setCells g o vs=w.setRow g (cur.toList.take o++vs++cur.toList.drop (o+vs.length)).toArray:=by
 have a:=run_storeCells_at P g o t vs 0 cur w hg (by simpa using hl) h1
 have b:=run_storeCells_cells (P:=P) g o vs 0 w (fun j hj=>by
   rw [cell_of_row _ _ _ _ _ _ hg];simp;omega) (fun j hj=>by simp [World.frozen?,hg]) h1
 rw [a] at b
 simp only [Nat.add_zero] at b
 injection b with _ b
 exact b.symm
def zbc (b:Bool) (s:List W64) (n:Nat) (k:List UInt8):List Value:=.bool b :: (s.map wv++(.int .u64 (n:Int) :: k.map bval))
theorem hcells_len (b:Bool) {s:List W64} (n:Nat) {k:List UInt8} (hs:s.length=8) (hk:k.length=128):(zbc b s n k).length=138:=by
 simp [zbc,hs,hk]
theorem hcells_s (b:Bool) {s:List W64} (n:Nat) {k:List UInt8} (hs:s.length=8) (j:Nat) (hj:j<8):(zbc b s n k)[1+j]?=(s.map wv)[j]?:=by
 rw [zbc,Nat.add_comm 1 j,List.getElem?_cons_succ,List.getElem?_append_left (by simp;omega)]
theorem hcells_n (b:Bool) {s:List W64} (n:Nat) {k:List UInt8} (hs:s.length=8):(zbc b s n k)[9]?=some (.int .u64 (n:Int)):=by
 rw [zbc,List.getElem?_cons_succ,List.getElem?_append_right (by simp;omega)]
 simp [hs]
theorem hcells_k (b:Bool) {s:List W64} (n:Nat) {k:List UInt8} (hs:s.length=8) (j:Nat):(zbc b s n k)[10+j]?=(k.map bval)[j]?:=by
 rw [zbc,show 10+j=(9+j)+1 by omega,List.getElem?_cons_succ,List.getElem?_append_right (by simp;omega)]
 rw [show 9+j-(s.map wv).length=j+1 by simp;omega,List.getElem?_cons_succ]
theorem hcells_setS (b:Bool) {s s':List W64} (n:Nat) {k:List UInt8} (hs:s.length=8) (hs':s'.length=8):(zbc b s n k).take 1++s'.map wv++(zbc b s n k).drop (1+(s'.map wv).length)=zbc b s' n k:=by
 have e:(s'.map wv).length=8:=by simp [hs']
 rw [e]
 unfold zbc
 rw [show 1+8=8+1 from rfl,List.drop_succ_cons,List.take_succ_cons,List.take_zero,List.drop_append_of_le_length (by simp;omega),List.drop_eq_nil_of_le (by simp;omega)]
 simp
theorem hcells_setN (b:Bool) {s:List W64} (n n':Nat) {k:List UInt8} (hs:s.length=8):(zbc b s n k).set 9 (.int .u64 (n':Int))=zbc b s n' k:=by
 unfold zbc
 rw [List.set_cons_succ,List.set_append,if_neg (by simp;omega),show 8-(s.map wv).length=0 by simp;omega,List.set_cons_zero]
theorem hcells_setK (b:Bool) {s:List W64} (n:Nat) {k:List UInt8} (hs:s.length=8) (r:Nat) (x:List UInt8):(zbc b s n k).take (10+r)++x.map bval++(zbc b s n k).drop (10+r+(x.map bval).length)=zbc b s n (k.take r++x++k.drop (r+x.length)):=by
 have e:(x.map bval).length=x.length:=by simp
 rw [e]
 have hh:∀ y:List UInt8,zbc b s n y=(Value.bool b :: (s.map wv++[Value.int .u64 (n:Int)]))++y.map bval:=fun y=>by simp [zbc]
 have hl:(Value.bool b :: (s.map wv++[Value.int .u64 (n:Int)])).length=10:=by simp [hs]
 rw [hh,hh]
 generalize (Value.bool b :: (s.map wv++[Value.int .u64 (n:Int)]))=p at *
 rw [List.take_append,List.take_of_length_le (by omega),hl,show 10+r-10=r by omega,List.drop_append,List.drop_eq_nil_of_le (by omega),hl,show 10+r+x.length-10=r+x.length by omega]
 simp [List.map_take,List.map_drop]
structure HA (W:World) (g:Nat) (b:Bool) (s:St) (n:Nat) (k:List UInt8):Prop where
 row:W.heap[g]?=some (.cells (zbc b s.l n k).toArray 133 (0,0))
 len:k.length=128
section
variable {W W':World} {g n:Nat} {b:Bool} {s:St} {k:List UInt8}
theorem HA.lt (h:HA W g b s n k):g<W.heap.size:=(Array.getElem?_eq_some_iff.1 h.row).1
theorem HA.only {Q:Nat→Prop} (h:HA W g b s n k) (ho:Only Q W W') (hq:¬ Q g):HA W' g b s n k:=⟨by rw [ho.block g h.lt hq];exact h.row,h.len⟩
theorem HA.below {B:Nat} (h:HA W g b s n k) (hb:Below B W W') (hB:g<B):HA W' g b s n k:=⟨by rw [hb.block g hB];exact h.row,h.len⟩
theorem HA.next (h:HA W g b s n k) (hb:Below W.heap.size W W'):HA W' g b s n k:=h.below hb h.lt
theorem HA.drew (h:HA W g b s n k):HA W.drew g b s n k:=⟨h.row,h.len⟩
theorem HA.drewN (h:HA W g b s n k) (i:Nat):HA (W.drewN i) g b s n k:=⟨h.row,h.len⟩
theorem HA.alloc (h:HA W g b s n k) (o:Obj):HA (W.alloc o) g b s n k:=⟨by rw [heap_alloc_old _ _ h.lt];exact h.row,h.len⟩
theorem HA.at_ (h:HA W g b s n k) (j:Nat):W.cell? ⟨g,j,none⟩=(zbc b s.l n k)[j]?:=by
 rw [cell_of_row _ _ _ _ _ _ h.row];simp
theorem HA.cb (h:HA W g b s n k):W.cell? ⟨g,0,none⟩=some (.bool b):=by rw [h.at_];rfl
theorem HA.cn (h:HA W g b s n k):W.cell? ⟨g,9,none⟩=some (.int .u64 (n:Int)):=by rw [h.at_,hcells_n _ _ (St.len s)]
theorem HA.fz (h:HA W g b s n k) (j:Nat):W.frozen? ⟨g,j,none⟩=false:=by simp [World.frozen?,h.row]
theorem HA.cs (h:HA W g b s n k):W.rangeAt g 1 (s.l.map wv):=fun j v hj=>by
 have hj8:j<8:=by have:=(List.getElem?_eq_some_iff.1 hj).1;simpa [St.len] using this
 rw [h.at_,hcells_s _ _ (St.len s) _ hj8,hj]
theorem HA.bs (h:HA W g b s n k):Bs W (some ⟨g,10,none⟩) k:=fun hl=>⟨g,10,rfl,fun j hj=>by
 rw [h.at_,hcells_k _ _ (St.len s),List.getElem?_map,List.getElem?_eq_getElem hj]
 simp [bval,List.getD,List.getElem?_eq_getElem hj]⟩
theorem HA.all (h:HA W g b s n k):W.rangeAt g 0 (zbc b s.l n k):=fun j v hj=>by
 rw [Nat.zero_add,h.at_,hj]
theorem HA.setN (h:HA W g b s n k) (n':Nat):HA (W.setCell ⟨g,9,none⟩ (.int .u64 (n':Int))) g b s n' k∧Only (fun j=>j=g) W (W.setCell ⟨g,9,none⟩ (.int .u64 (n':Int))):=by
 refine ⟨⟨?_,h.len⟩,(Only.refl (fun j=>j=g) W).setCell (p:=⟨g,9,none⟩) (.inl rfl) _⟩
 rw [setCell_eq_setRow W g 9 _ _ _ _ h.row,setRow_heap _ _ _ _ _ _ h.row]
 simp [← hcells_setN b n n' (St.len s)]
theorem only_setRow {g:Nat} {cs:Array Value}:Only (fun j=>j=g) W (W.setRow g cs):=⟨rfl,rfl,rfl,by simp,fun j hj hn=>setRow_other _ _ _ _ hn⟩
theorem HA.setS (h:HA W g b s n k) (s':St):HA (W.setCells g 1 (tabW s'.l).toList) g b s' n k∧Only (fun j=>j=g) W (W.setCells g 1 (tabW s'.l).toList):=by
 have e:(tabW s'.l).toList=s'.l.map wv:=by simp [tabW]
 have hl:=hcells_len b (s:=s.l) n (St.len s) h.len
 rw [e,setCells_row (P:=Tryz.prog) h.row (by simp [hl,St.len]) (fun v hv=>by obtain ⟨x,_,rfl⟩:=List.mem_map.1 hv;rfl)]
 refine ⟨⟨?_,h.len⟩,only_setRow⟩
 rw [setRow_heap _ _ _ _ _ _ h.row]
 simp only
 rw [hcells_setS b n (St.len s) (St.len s')]
theorem HA.setK (h:HA W g b s n k) (r:Nat) (x:List UInt8) (hr:r+x.length≤128) :
  HA (W.setRow g ((zbc b s.l n k).take (10+r)++x.map bval++(zbc b s.l n k).drop (10+r+(x.map bval).length)).toArray) g b s n (k.take r++x++k.drop (r+x.length)):=by
 have hk:=h.len
 refine ⟨?_,by simp;omega⟩
 rw [setRow_heap _ _ _ _ _ _ h.row,hcells_setK b n (St.len s)]
end
def HSh (W:World) (g:Nat) (h:Sh):Prop:=h.ok∧∃ k,HA W g true h.s h.n k∧k.take (h.n % 128)=h.t
theorem HSh.lt {W:World} {g:Nat} {h:Sh} (hs:HSh W g h):g<W.heap.size:=by obtain ⟨_,k,ha,_⟩:=hs;exact ha.lt
theorem HSh.only {W W':World} {g:Nat} {h:Sh} {Q:Nat→Prop} (hs:HSh W g h) (ho:Only Q W W') (hq:¬ Q g):HSh W' g h:=by
 obtain ⟨hk,k,ha,ht⟩:=hs;exact ⟨hk,k,ha.only ho hq,ht⟩
theorem HSh.next {W W':World} {g:Nat} {h:Sh} (hs:HSh W g h) (hb:Below W.heap.size W W'):HSh W' g h:=by
 obtain ⟨hk,k,ha,ht⟩:=hs;exact ⟨hk,k,ha.next hb,ht⟩
def HashH:HashP:=fun W g h F=>(∀ j,F j↔j=g)∧(HSh W g h∨∃ s k,HA W g false s 0 k∧h=Sh.nil)
theorem HashH.ok {W:World} {g:Nat} {h:Sh} {F:Nat→Prop} (hh:HashH W g h F):h.ok:=by
 rcases hh.2 with hs | ⟨s,k,_,rfl⟩
 ·exact hs.1
 ·exact Sh.nil_ok
theorem HashH.lt {W:World} {g:Nat} {h:Sh} {F:Nat→Prop} (hh:HashH W g h F):∀ j,F j→j<W.heap.size:=fun j hj=>by
 have e:=(hh.1 j).1 hj
 subst e
 rcases hh.2 with hs | ⟨s,k,ha,rfl⟩
 ·exact hs.lt
 ·exact ha.lt
def heldN (n:Nat) (l:List UInt8):Nat:=Nat.min l.length (128-n % 128)
def heldK (n:Nat) (k l:List UInt8):List UInt8:=k.take (n % 128)++l.take (heldN n l)++k.drop (n % 128+heldN n l)
theorem heldK_len {n:Nat} {k:List UInt8} (l:List UInt8) (hk:k.length=128):(heldK n k l).length=128:=by
 have:heldN n l≤128-n % 128:=Nat.min_le_right _ _
 have:heldN n l≤l.length:=Nat.min_le_left _ _
 simp [heldK];omega
theorem hold_short {h:Sh} {k:List UInt8} (l:List UInt8) (ho:h.ok) (hk:k.length=128) (ht:k.take (h.n % 128)=h.t) (hl:h.n % 128+l.length<128) :
  heldN h.n l=l.length∧(h.add l).s=h.s∧(h.add l).n=h.n+l.length∧(heldK h.n k l).take ((h.n+l.length) % 128)=(h.add l).t:=by
 have hm:heldN h.n l=l.length:=Nat.min_eq_left (by omega)
 unfold Sh.ok at ho
 have e:(h.t++l).length<128:=by rw [List.length_append];omega
 refine ⟨hm,over_short _ _ e,rfl,?_⟩
 show _=restL (h.t++l)
 rw [restL_short _ e]
 unfold heldK
 rw [hm,ht,List.take_of_length_le (Nat.le_refl l.length),show (h.n+l.length) % 128=h.n % 128+l.length by omega]
 apply List.take_left'
 rw [List.length_append,ho]
theorem hold_full {h:Sh} {k:List UInt8} (l:List UInt8) (ho:h.ok) (hk:k.length=128) (ht:k.take (h.n % 128)=h.t) (hl:128≤h.n % 128+l.length) :
  heldN h.n l=128-h.n % 128∧heldK h.n k l=h.t++l.take (128-h.n % 128) ∧
   h.add (l.take (128-h.n % 128))=⟨stepW ksL h.s (zbf (h.t++l.take (128-h.n % 128))),h.n+(128-h.n % 128),[]⟩:=by
 have hm:heldN h.n l=128-h.n % 128:=Nat.min_eq_right (by omega)
 unfold Sh.ok at ho
 have hl1:(l.take (128-h.n % 128)).length=128-h.n % 128:=by rw [List.length_take];omega
 have e:(h.t++l.take (128-h.n % 128)).length=128:=by rw [List.length_append,ho,hl1];omega
 refine ⟨hm,?_,?_⟩
 ·unfold heldK
  rw [hm,ht,List.drop_eq_nil_of_le (by omega),List.append_nil]
 ·unfold Sh.add
  rw [hl1]
  congr 1
  ·unfold over
   rw [e]
   show stepW ksL h.s (zbf (zbs _ 0))=_
   unfold zbs
   rw [List.drop_zero,List.take_of_length_le (by omega)]
  ·apply List.eq_nil_of_length_eq_zero
   rw [restL_len,e]
theorem hheld_any {g n:Nat} {s:St} {k:List UInt8} {b:Bool} (W:World) (ha:HA W g b s n k) (hn:n≤4611686018427387904) :
  Calls Tryz.prog 103 #[.pointer (some ⟨g,0,none⟩)] W fun e w'=>e=.returned (.int .i64 ((n % 128:Nat):Int))∧w'=W:=by
 have hc:=ha.cn
 obtain ⟨r,hr⟩:∃ r,n % 128=r:=⟨_,rfl⟩
 rw [hr]
 have hr':r<128:=by omega
 have t1:(n:Int).tmod 128=(r:Int):=by rw [Int.tmod_eq_emod_of_nonneg (by omega)];omega
 have t2:(n:Int) % 128=(r:Int):=by omega
 clear hr ha
 go_enter Tryz.func103,Tryz.ntmps103
 go_wp2
 go_ret
 first | exact ⟨rfl,rfl⟩ | exact ⟨rfl,trivial⟩
theorem slice_block (g r:Nat) (hr:r<128) (u:World):(Instr.sliceAt 131 (.pointer (some ⟨g,10,none⟩)) (some (.int .i64 (r:Int))) none none).run Tryz.prog u=.ok (.slice (some ⟨g,10+r,none⟩) (128-r) (128-r)) u:=by
 have hu:Tryz.prog.underlying 131=some (.array (Tryz.prog.arrayLen 131) (Tryz.prog.elem 131)):=by kernel_rfl
 have hl:Tryz.prog.arrayLen 131=128:=by kernel_rfl
 have hz:∀ W:World,(sizeOf (Tryz.prog.elem 131)).run Tryz.prog W=.ok 1 W:=fun W=>by kernel_rfl
 rw [run_sliceAt_array_l u _ _ hu .i64 (r:Int) (by omega) (by rw [hl];omega),hz,hl]
 simp only [Result.andThen,slicedAt,Int.toNat_natCast,Nat.mul_one]
 rw [if_neg (by omega),addr_add]
theorem slice_block_all (g:Nat) (u:World):(Instr.sliceAt 131 (.pointer (some ⟨g,10,none⟩)) none none none).run Tryz.prog u=.ok (.slice (some ⟨g,10,none⟩) 128 128) u:=by
 have hu:Tryz.prog.underlying 131=some (.array (Tryz.prog.arrayLen 131) (Tryz.prog.elem 131)):=by kernel_rfl
 have hl:Tryz.prog.arrayLen 131=128:=by kernel_rfl
 have hz:∀ W:World,(sizeOf (Tryz.prog.elem 131)).run Tryz.prog W=.ok 1 W:=fun W=>by kernel_rfl
 rw [run_sliceAt_array_all u _ _ hu,hz,hl]
 simp only [Result.andThen,slicedAt]
 rfl
theorem wpList_copy_block {w:World} {ops:Array Oper} {rest:List Oper} {o:Oper} {a:Act} {Q:Exit→Act→World→Prop} (hgd:o.guard=none) (d x:Operand)
  (ho:o.op=.call { callee:=.builtin .copy,args:=#[d,x],argTypes:=#[23,23] }) {g n:Nat} {b:Bool} {s:St} {k:List UInt8} (r L C:Nat) (A:Option Addr) (l:List UInt8) (c:Nat)
  (hd:a.eval d=.slice (some ⟨g,10+r,none⟩) L C) (hx:a.eval x=.slice A l.length c) (ha:HA w g b s n k) (hb:Bs w A l) (hL:r+L=128) (m:Nat) (hm:m=Nat.min l.length L)
  (h:∀ w',HA w' g b s n (k.take r++l.take m++k.drop (r+m))→Only (fun j=>j=g) w w'→wpList Tryz.prog ops Q rest (a.put o.dst (goInt m)) w'):wpList Tryz.prog ops Q (o :: rest) a w:=by
 refine wpList_plain hgd fun K hK=>?_
 have hml:m≤l.length:=by rw [hm];exact Nat.min_le_left _ _
 have hmL:m≤L:=by rw [hm];exact Nat.min_le_right _ _
 have hk:=ha.len
 have hcl:=hcells_len b (s:=s.l) n (St.len s) hk
 have:∃ w',(Builtin.copy_ #[23,23] o.type #[.slice (some ⟨g,10+r,none⟩) L C,.slice A l.length c]).run Tryz.prog w=.ok (goInt m) w'∧HA w' g b s n (k.take r++l.take m++k.drop (r+m))∧Only (fun j=>j=g) w w':=by
  by_cases h0:l.length=0
  ·have:l=[]:=List.eq_nil_of_length_eq_zero h0
   subst this
   have hm0:m=0:=by simp at hml;omega
   subst hm0
   refine ⟨w,run_copy_none (P:=Tryz.prog) w _ _ o.type 5 (some ⟨g,10+r,none⟩) A L C 0 c Tryz.underlying23 (by kernel_rfl) (by simp),?_,Only.refl _ _⟩
   simpa using ha
  ·obtain ⟨b',o',rfl,hc⟩:=hb (by omega)
   have hcs:((l.take m).map bval).length=m:=by simp;omega
   have hrun:=run_copy_row (P:=Tryz.prog) w 23 23 o.type 5 g (10+r) L C ⟨b',o',none⟩ l.length c _ 133 ((l.take m).map bval) Tryz.underlying23 (by kernel_rfl) ha.row (by rw [hcs];exact hm)
    (fun j v hj=>(Bs.news (w:=w) (a:=⟨b',o',none⟩) (l:=l) hb) j v (by
     have:j<m:=by
      rcases Nat.lt_or_ge j m with h | h
      ·exact h
      ·rw [List.getElem?_eq_none (by rw [hcs];exact h)] at hj;cases hj
     simpa [List.getElem?_take,this] using hj)) (by rw [hcs];simp [hcl];omega) (fun v hv=>by obtain ⟨x,_,rfl⟩:=List.mem_map.1 hv;rfl)
   rw [hcs] at hrun
   have hK:=ha.setK r (l.take m) (by rw [List.length_take];omega)
   rw [hcs,show (l.take m).length=m by rw [List.length_take];omega] at hK
   exact ⟨_,hrun,hK,only_setRow⟩
 obtain ⟨w',hrun,h2,h3⟩:=this
 unfold Oper.wp execOp
 simp only [ho,resolve,invoke,builtin,Sem.run_bind,Sem.run_pure,Result.andThen_ok,List.map_toArray,List.map_cons,List.map_nil,hd,hx,hrun]
 exact hK _ _ (h w' h2 h3)
theorem hhold_any {g n:Nat} {s:St} {k:List UInt8} (W:World) (A:Option Addr) (l:List UInt8) (c:Nat) (ha:HA W g true s n k) (hb:Bs W A l) (hn:n≤2305843009213693952) (hl:l.length≤1000000) :
  Calls Tryz.prog 102 #[.pointer (some ⟨g,0,none⟩),.slice A l.length c] W fun e w'=>e=.returned (.int .i64 (heldN n l:Int))∧HA w' g true s (n+heldN n l) (heldK n k l)∧Only (fun j=>j=g) W w':=by
 unfold heldK
 obtain ⟨m,hm⟩:∃ m,heldN n l=m:=⟨_,rfl⟩
 obtain ⟨r,hr⟩:∃ r,n % 128=r:=⟨_,rfl⟩
 have hm':m=Nat.min l.length (128-r):=by rw [← hm,heldN,hr]
 have hml:m≤128:=by
   have:m≤128-r:=by rw [hm'];exact Nat.min_le_right _ _
   omega
 rw [hm,hr]
 have hr':r<128:=by omega
 have HHE:Hid (Calls Tryz.prog 103 #[.pointer (some ⟨g,0,none⟩)] (W.drewN 1) fun e w'=>e=.returned (.int .i64 (r:Int))∧w'=W.drewN 1):=yh (by
  have:=hheld_any (W.drewN 1) (ha.drewN 1) (by omega)
  rwa [hr] at this)
 have hsl:=fun u=>slice_block g r hr' u
 have HA1:Hid (HA (W.drewN 1) g true s n k):=yh (ha.drewN 1)
 have HB1:Hid (Bs (W.drewN 1) A l):=yh hb
 have HM:=yh hm'
 have HR:Hid (r+(128-r)=128):=yh (by omega)
 have HO1:Hid (∀ w',Only (fun j=>j=g) (W.drewN 1) w'→Only (fun j=>j=g) W w'):=yh (fun w' h=>((Only.refl _ _).drewN 1).trans h)
 have t1:IntKind.u64.wrap (m:Int)=(m:Int):=by rw [IntKind.wrap_u64];omega
 have t2:IntKind.u64.wrap ((n:Int)+(m:Int))=((n+m:Nat):Int):=by rw [IntKind.wrap_u64];omega
 obtain ⟨N,hN⟩:∃ N,n+m=N:=⟨_,rfl⟩
 rw [hN] at t2 ⊢
 obtain ⟨L,hL⟩:∃ L,128-r=L:=⟨_,rfl⟩
 rw [hL] at hsl HM HR
 clear ha hb hm hr hm' hN hL
 go_enter Tryz.func102,Tryz.ntmps102
 go_wp2_with fail
 refine wp_region_still_tail 7 (by kernel_rfl) (by kernel_rfl) ?_
 simp only [List.take_succ_cons,List.take_zero,List.drop_succ_cons,List.drop_zero]
 iterate 4 still_step
 still_call (HHE.out)
 iterate 2 still_step
 refine wpStill_nil ?_
 go_wp2_with (refine wpList_copy_block rfl (.tmp 11) (.tmp 12) rfl r L L A l c rfl rfl HA1.out HB1.out HR.out m HM.out ?_;intro w2 ha2 ho2;have hc2:=ha2.cn;have hf2:=ha2.fz 9;have HA2:=yh (ha2.setN N);have HO2:=yh (HO1.out _ ho2);clear ha2 ho2)
 go_ret
 exact ⟨rfl,HA2.out.1,HO2.out.trans HA2.out.2⟩
theorem build_hash (s:St) (u:World):(Instr.build 133 #[(0,.bool true),(1,.agg (tabW s.l))]).run Tryz.prog u=.ok (.agg (zbc true s.l 0 (List.replicate 128 0)).toArray) u:=by
 obtain ⟨a,b,c,d,e,f,g,h⟩:=s
 exact run_build u _ _ _ (by kernel_rfl)
theorem hnew_any (W:World):Calls Tryz.prog 48 #[] W fun e w'=>∃ g,e=.returned (.pointer (some ⟨g,0,none⟩))∧HSh w' g Sh.nil∧W.heap.size≤g∧Below W.heap.size W w':=by
 have HB:Hid (∀ W:World,Calls Tryz.prog 101 #[] W fun e w'=>e=.returned (.agg (tabW begS.l))∧Below W.heap.size W w'):=yh (by rw [← tabW_beg];exact fun W=>begin_any W)
 have hbu:=fun u=>build_hash begS u
 have HP:Hid (∀ w1:World,Below W.heap.size W w1→HSh (w1.alloc (.cells (zbc true begS.l 0 (List.replicate 128 0)).toArray 133)) w1.heap.size Sh.nil∧W.heap.size≤w1.heap.size∧Below W.heap.size W (w1.alloc (.cells (zbc true begS.l 0 (List.replicate 128 0)).toArray 133))) :=
  yh (fun w1 h1=>⟨⟨Sh.nil_ok,List.replicate 128 0,⟨heap_alloc_new _ _,by simp⟩,by simp [Sh.nil]⟩,h1.size,zad h1 _⟩)
 obtain ⟨V,hV⟩:∃ V,(zbc true begS.l 0 (List.replicate 128 0)).toArray=V:=⟨_,rfl⟩
 obtain ⟨B,hB⟩:∃ B,tabW begS.l=B:=⟨_,rfl⟩
 rw [hV] at HP
 rw [hV,hB] at hbu
 rw [hB] at HB
 clear hV hB
 go_enter Tryz.func48,Tryz.ntmps48
 go_wp2_with fail
 with_reducible refine (HB.out _).mono ?_
 rintro e w1 ⟨rfl,hb1⟩
 have HP1:=yh (HP.out w1 hb1)
 have HBU:=yh hbu
 clear HP HB hb1 hbu
 go_wp2_with (refine zaO (o:=⟨some 2,_,_,_,_,_⟩) rfl (.agg V) (Eq.trans (b:=Sem.run Tryz.prog (do pure (Next.value (← Instr.build 133 #[(0,.bool true),(1,.agg B)]))) w1) (by kernel_rfl) (run_value (HBU.out _))) ?_)
 go_ret
 exact ⟨_,rfl,HP1.out⟩
end Go.Proofs.YtkgodlcnoenmbaaGreat
