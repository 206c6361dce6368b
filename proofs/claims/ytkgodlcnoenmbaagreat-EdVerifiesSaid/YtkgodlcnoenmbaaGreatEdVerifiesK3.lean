/-
  A part of what the proof of EdVerifies rests on: plain lemmas and contracts of the functions that it calls. No conditions but what each theorem states.
-/
import Derived.Test.YtkgodlcnoenmbaaGreatEdVerifiesK2
namespace Go.Proofs.YtkgodlcnoenmbaaGreat
set_option linter.unusedVariables false
set_option maxRecDepth 100000
def mulAt (x y t:List Int) (i k:Nat):List Int:=t.set (i+k) (gI t (i+k)+gI x i*gI y k)
def zbm (x y t:List Int) (i:Nat):Nat→List Int
 | 0=>t
 | k+1=>mulAt x y (zbm x y t i k) i k
def zaX (x y:List Int):Nat→List Int
 | 0=>List.replicate 32 0
 | i+1=>zbm x y (zaX x y i) i 16
theorem mulRow_len (x y t:List Int) (i:Nat):∀ k,(zbm x y t i k).length=t.length
 | 0=>rfl
 | k+1=>by rw [zbm,mulAt,List.length_set,mulRow_len x y t i k]
theorem mulAll_len (x y:List Int):∀ i,(zaX x y i).length=32
 | 0=>by simp [zaX]
 | i+1=>by rw [zaX,mulRow_len,mulAll_len x y i]
theorem take_val (y:List Int) (k:Nat) (hk:k<y.length):vL (y.take (k+1))=vL (y.take k)+gI y k*65536^k:=by
 rw [List.take_add_one,List.getElem?_eq_getElem hk]
 have h:=vL_split (y.take k) y[k]
 rw [show (y.take k).length=k by rw [List.length_take];omega] at h
 have e:gI y k=y[k]:=by simp [gI,List.getD,List.getElem?_eq_getElem hk]
 rw [e]
 exact h
theorem mulRow_val (x y t:List Int) (i:Nat) (hy:y.length=16) (ht:t.length=32) (hi:i<16):∀ k,k≤16→vL (zbm x y t i k)=vL t+gI x i*65536^i*vL (y.take k)
 | 0,_=>by simp [zbm,vL]
 | k+1,hk=>by
  have ih:=mulRow_val x y t i hy ht hi k (by omega)
  rw [zbm,mulAt,vL_set _ _ _ (by rw [mulRow_len];omega),ih,take_val y k (by omega),Int.pow_add]
  generalize gI (zbm x y t i k) (i+k)=a
  generalize vL (y.take k)=b
  generalize (65536:Int)^i=p
  generalize (65536:Int)^k=q
  grind
theorem mulAll_val (x y:List Int) (hx:x.length=16) (hy:y.length=16):∀ i,i≤16→vL (zaX x y i)=vL (x.take i)*vL y
 | 0,_=>by rw [List.take_zero];show vL (List.replicate 32 0)=vL []*vL y;rw [show vL (List.replicate 32 0)=0 by decide];simp [vL]
 | i+1,h=>by
  have ih:=mulAll_val x y hx hy i (by omega)
  rw [zaX,mulRow_val x y _ i hy (mulAll_len _ _ _) (by omega) 16 (by omega),ih,take_val x i (by omega),show y.take 16=y from List.take_of_length_le (by omega)]
  rw [Int.add_mul]
theorem mul_small {a b:Int} (ha:0≤a∧a<65536) (hb:0≤b∧b<65536):0≤a*b∧a*b≤4294967296:=by
 refine ⟨Int.mul_nonneg ha.1 hb.1,?_⟩
 have:a*b≤65536*65536:=Int.mul_le_mul (by omega) (by omega) hb.1 (by omega)
 omega
theorem mulRow_bd (x y t:List Int) (i:Nat) (M:Int) (hx:∀ j,0≤gI x j∧gI x j<65536) (hy:∀ j,0≤gI y j∧gI y j<65536) (ht:t.length=32) (hi:i<16) (hM:∀ j,0≤gI t j∧gI t j≤M):∀ k,k≤16→∀ j,0≤gI (zbm x y t i k) j∧gI (zbm x y t i k) j≤M+k*4294967296
 | 0,_,j=>by have:=hM j;rw [zbm];omega
 | k+1,hk,j=>by
  have ih:=mulRow_bd x y t i M hx hy ht hi hM k (by omega)
  have hp:=mul_small (hx i) (hy k)
  rw [zbm,mulAt,gI_set _ _ _ _ (by rw [mulRow_len];omega)]
  have h1:=ih j
  have h2:=ih (i+k)
  generalize gI x i*gI y k=p at *
  split <;> omega
theorem mulAll_bd (x y:List Int) (hx:∀ j,0≤gI x j∧gI x j<65536) (hy:∀ j,0≤gI y j∧gI y j<65536):∀ i,i≤16→∀ j,0≤gI (zaX x y i) j∧gI (zaX x y i) j≤i*68719476736
 | 0,_,j=>by
  rw [zaX]
  have e:gI (List.replicate 32 0) j=0:=by
   simp only [gI,List.getD,List.getElem?_replicate]
   split <;> rfl
  rw [e];omega
 | i+1,h,j=>by
  have ih:=mulAll_bd x y hx hy i (by omega)
  have h1:=mulRow_bd x y (zaX x y i) i _ hx hy (mulAll_len _ _ _) (by omega) ih 16 (by omega) j
  rw [zaX]
  omega
theorem vL_app:∀ (a b:List Int),vL (a++b)=vL a+65536^a.length*vL b
 | [],b=>by simp [vL]
 | x :: a,b=>by
  have ih:=vL_app a b
  rw [List.cons_append,vL,vL,ih,List.length_cons,Int.pow_succ,Int.mul_comm ((65536:Int)^a.length) 65536,Int.mul_assoc]
  generalize (65536:Int)^a.length*vL b=q
  omega
def foldM (t:List Int):List Int:=(List.range 16).map fun i=>gI t i+38*gI t (i+16)
theorem foldM_val {t:List Int} (ht:t.length=32):vL (foldM t) % pP=vL t % pP:=by
 have h:=vL_app (t.take 16) (t.drop 16)
 rw [List.take_append_drop,show (t.take 16).length=16 by rw [List.length_take];omega] at h
 have e1:(List.range 16).map (fun i=>gI t i)=t.take 16:=by
  rw [list16 (l:=t.take 16) (by rw [List.length_take];omega)]
  apply List.map_congr_left
  intro i hi
  have hi:=List.mem_range.1 hi
  simp [gI,List.getD,hi]
 have e2:(List.range 16).map (fun i=>gI t (i+16))=t.drop 16:=by
  rw [list16 (l:=t.drop 16) (by rw [List.length_drop];omega)]
  apply List.map_congr_left
  intro i hi
  simp [gI,List.getD,Nat.add_comm]
 have e3:vL (foldM t)=vL (t.take 16)+38*vL (t.drop 16):=by
  unfold foldM
  rw [vL_add,vL_mulc,e1,e2]
 have e4:(65536:Int)^16=2*pP+38:=by decide
 rw [e4] at h
 rw [e3,h]
 generalize vL (t.take 16)=u
 generalize vL (t.drop 16)=v
 unfold pP
 omega
theorem vL_top:∀ l:List Int,(∀ i,0≤gI l i∧gI l i≤42880953483264)→0≤vL l∧65535*vL l≤42880953483264*(65536^l.length-1)
 | [],_=>by simp [vL]
 | a :: l,h=>by
  have h0:=h 0
  have ih:=vL_top l (fun i=>h (i+1))
  rw [gI_zero] at h0
  rw [vL,List.length_cons,Int.pow_succ]
  generalize (65536:Int)^l.length=p at *
  omega
theorem foldM_ok {x y:List Int} (hx:x.length=16) (hy:y.length=16) (bx:∀ j,0≤gI x j∧gI x j<65536) (by':∀ j,0≤gI y j∧gI y j<65536) :
  Bd 70368744177664 (foldM (zaX x y 16))∧-(8*P255)≤vL (foldM (zaX x y 16))∧vL (foldM (zaX x y 16))≤35184372088832*P255∧vL (foldM (zaX x y 16)) % pP=(vL x*vL y) % pP:=by
 have hb:=mulAll_bd x y bx by' 16 (by omega)
 have hf:∀ i,0≤gI (foldM (zaX x y 16)) i∧gI (foldM (zaX x y 16)) i≤42880953483264:=fun i=>by
  by_cases hi:i<16
  ·rw [foldM,gI_range _ _ hi]
   have h1:=hb i
   have h2:=hb (i+16)
   omega
  ·rw [gI_out (by simp [foldM];omega)];omega
 have ht:=vL_top _ hf
 have hl:(foldM (zaX x y 16)).length=16:=by simp [foldM]
 rw [hl,show (65536:Int)^16=2*P255 by decide] at ht
 refine ⟨fun i=>by have:=hf i;omega,?_,?_,?_⟩
 ·unfold P255 at *;omega
 ·unfold P255 at *;omega
 ·rw [foldM_val (mulAll_len _ _ _),mulAll_val x y hx hy 16 (by omega),show x.take 16=x from List.take_of_length_le (by omega)]
end Go.Proofs.YtkgodlcnoenmbaaGreat
namespace Go.Proofs.YtkgodlcnoenmbaaGreat
open Go.RowKit
set_option linter.unusedVariables false
set_option maxRecDepth 100000
theorem AddI.far {w wr:World} {g gt:Nat} {X Y z0 T:Array Value} {ty:TypeId} (h:AddI w wr g X Y z0) (ht:wr.heap[gt]?=some (.cells T ty (0,0))) (hg:g+1+1<gt) (k:Nat) (v:Value):AddI w (wr.setCell ⟨gt,k,none⟩ v) g X Y z0:=by
 have e:=setCell_eq_setRow wr gt k _ _ _ v ht
 exact ⟨by rw [e,setRow_other _ _ _ _ (by omega)];exact h.x,by rw [e,setRow_other _ _ _ _ (by omega)];exact h.y,by rw [e,setRow_other _ _ _ _ (by omega)];exact h.z,h.below.setCell (p:=⟨gt,k,none⟩) (by show g≤gt;omega) _⟩
set_option maxHeartbeats 1600000 in
theorem rmul9_any (x y:Int) (hx0:0≤x) (hx:x<pP) (hy0:0≤y) (hy:y<pP) (w:World) :
  Calls Tryz.prog 65 #[.agg (tabI (dgN 16 x)),.agg (tabI (dgN 16 y))] w fun e w'=>e=.returned (.agg (tabI (dgN 16 ((x*y) % pP))))∧Below w.heap.size w w':=by
 have hz:=fun u=>zero_fe u
 have hz32:=fun u=>zero_row 150 (tabI (List.replicate 32 0)) 32 (by kernel_rfl) u
 obtain ⟨z0,hz0e⟩:∃ t,tabI (List.replicate 16 0)=t:=⟨_,rfl⟩
 rw [hz0e] at hz
 have HZ0E:=yh hz0e
 have n0:z0.size=16:=by rw [← hz0e,zaB];simp
 have o0:z0.all (·.oneCell')=true:=by rw [← hz0e];exact zaZ _
 have i0:(Tryz.prog.info? 56).map (·.size)=some z0.size:=by rw [← hz0e];exact za9 (by simp)
 obtain ⟨t0,ht0⟩:∃ t,tabI (List.replicate 32 0)=t:=⟨_,rfl⟩
 rw [ht0] at hz32
 have nt:t0.size=32:=by rw [← ht0,zaB];simp
 have ot:t0.all (·.oneCell')=true:=by rw [← ht0];exact zaZ _
 have it:(Tryz.prog.info? 150).map (·.size)=some t0.size:=by rw [nt];kernel_rfl
 obtain ⟨a,ha⟩:∃ a,dgN 16 x=a:=⟨_,rfl⟩
 obtain ⟨b,hb⟩:∃ b,dgN 16 y=b:=⟨_,rfl⟩
 have hal:a.length=16:=by rw [← ha,zaD]
 have hbl:b.length=16:=by rw [← hb,zaD]
 have hab:∀ i,0≤gI a i∧gI a i<65536:=by rw [← ha];exact fun i=>dg_bd i
 have hbb:∀ i,0≤gI b i∧gI b i<65536:=by rw [← hb];exact fun i=>dg_bd i
 obtain ⟨q1,q2,q3,q4⟩:=foldM_ok hal hbl hab hbb
 have hva:vL a=x:=by rw [← ha,dg_val hx0 hx]
 have hvb:vL b=y:=by rw [← hb,dg_val hy0 hy]
 rw [hva,hvb] at q4
 have HNO:Hid (∀ W:World,Calls Tryz.prog 117 #[.agg (tabI (foldM (zaX a b 16)))] W fun e w'=>e=.returned (.agg (tabI (dgN 16 ((x*y) % pP))))∧Below W.heap.size W w'):=yh fun W=>by
  have h:=rnorm9_any _ (by simp [foldM]) q1 q2 q3 W
  rwa [q4] at h
 obtain ⟨R,hR⟩:∃ R,tabI (dgN 16 ((x*y) % pP))=R:=⟨_,rfl⟩
 have nR:R.size=16:=by rw [← hR,zaB,zaD]
 have oR:R.all (·.oneCell')=true:=by rw [← hR];exact zaZ _
 have iR:(Tryz.prog.info? 56).map (·.size)=some R.size:=by rw [← hR];exact za9 (zaD _ _)
 have zR:z0.size=R.size:=by rw [n0,nR]
 rw [hR] at HNO ⊢
 rw [ha,hb]
 have HAL:=yh hal
 have HBL:=yh hbl
 have HAB:=yh hab
 have HBB:=yh hbb
 have HMB:Hid (∀ i k j,i<16→k≤16→0≤gI (zbm a b (zaX a b i) i k) j∧gI (zbm a b (zaX a b i) i k) j≤1099511627776):=yh fun i k j hi hk=>by
  have h1:=mulRow_bd a b _ i _ hab hbb (mulAll_len a b i) hi (mulAll_bd a b hab hbb i (by omega)) k hk j
  omega
 have HMA:Hid (∀ j,0≤gI (zaX a b 16) j∧gI (zaX a b 16) j≤1099511627776):=yh fun j=>by
  have:=mulAll_bd a b hab hbb 16 (by omega) j
  omega
 obtain ⟨XA,hXA⟩:∃ X,tabI a=X:=⟨_,rfl⟩
 obtain ⟨YB,hYB⟩:∃ X,tabI b=X:=⟨_,rfl⟩
 have HI0:Hid (AddI w (((w.alloc (.cells XA 56)).alloc (.cells YB 56)).alloc (.cells z0 56)) w.heap.size XA YB z0):=yh (addI_start _ _ _ _)
 obtain ⟨W0,hW0⟩:∃ W,((w.alloc (.cells XA 56)).alloc (.cells YB 56)).alloc (.cells z0 56)=W:=⟨_,rfl⟩
 rw [hW0] at HI0
 have hs0:W0.heap.size=w.heap.size+1+1+1:=by rw [← hW0];simp
 have hT0:(W0.alloc (.cells t0 150)).heap[W0.heap.size]?=some (.cells t0 150 (0,0)):=heap_alloc_new _ _
 have HT1:Hid (((W0.alloc (.cells t0 150)).setRow W0.heap.size t0).heap[W0.heap.size]?=some (.cells t0 150 (0,0))):=yh (setRow_heap _ _ _ _ _ _ hT0)
 have HI1:=yh (HI0.out.row (.cells t0 150) t0)
 have HXA:=yh hXA
 have HYB:=yh hYB
 have HT0:=yh ht0
 rw [hXA,hYB]
 rw [hs0] at HT1 HI1 hT0
 have HW0:=yh hW0
 have HGT:Hid (w.heap.size+1+1<w.heap.size+1+1+1):=yh (by omega)
 rw [← hW0] at hT0
 clear hz0e ht0 ha hb hal hbl hab hbb q1 q2 q3 q4 hva hvb hR nR hXA hYB hx0 hx hy0 hy hs0 HI0 hW0
 go_enter Tryz.func65,Tryz.ntmps65
 go_wp2_with (refine yj t0 hT0 it rfl ot ?_)
 rw [HW0.out]
 obtain ⟨g,hg⟩:∃ g,w.heap.size=g:=⟨_,rfl⟩
 obtain ⟨gt,hgt⟩:∃ q,g+1+1+1=q:=⟨_,rfl⟩
 obtain ⟨W1,hW1⟩:∃ W,(W0.alloc (.cells t0 150)).setRow (w.heap.size+1+1+1) t0=W:=⟨_,rfl⟩
 rw [hW1] at HT1 HI1
 rw [hW1]
 rw [hg] at HT1 HI1 HGT
 rw [hgt] at HT1 HGT
 rw [hg,hgt]
 have HG:=yh hg
 rw [← HT0.out,show List.replicate 32 (0:Int)=zaX a b 0 from rfl] at HT1
 clear hg hgt hW1 hT0 HW0
 go_loopw [6] (fun i wr=>∃ k:Nat,k≤16∧i=.int .i64 (k:Int)∧Hid (AddI w wr g XA YB z0)∧Hid (wr.heap[gt]?=some (.cells (tabI (zaX a b k)) 150 (0,0)))) (fun i _=>16-(intOf i).toNat)
 case atStart=>exact ⟨0,by omega,rfl,HI1,HT1⟩
 case round =>
  clear HI1 HT1
  obtain ⟨ii,hii,rfl,HI,HT⟩:=hrel
  by_cases hlti:ii<16
  ·have dk:decide ((ii:Int)<16)=true:=decide_eq_true (by omega)
   have HT':Hid (wr.heap[gt]?=some (.cells (tabI (zbm a b (zaX a b ii) ii 0)) 150 (0,0))):=HT
   clear HT
   go_wp2_with fail
   go_loopw [7] (fun i wr=>∃ k:Nat,k≤16∧i=.int .i64 (k:Int)∧Hid (AddI w wr g XA YB z0)∧Hid (wr.heap[gt]?=some (.cells (tabI (zbm a b (zaX a b ii) ii k)) 150 (0,0)))) (fun i _=>16-(intOf i).toNat)
   case atStart=>exact ⟨0,by omega,rfl,HI,HT'⟩
   case round =>
    clear HI HT'
    obtain ⟨k,hk,rfl,HI,HT⟩:=hrel
    by_cases hlt:k<16
    ·have cx:wr.cell? ⟨g,ii,none⟩=some (.int .i64 (gI a ii)):=by rw [cell_of_row _ _ _ _ _ _ HI.out.x,← HXA.out,zas _ _ (by rw [HAL.out];exact hlti)]
     have cy:wr.cell? ⟨g+1,k,none⟩=some (.int .i64 (gI b k)):=by rw [cell_of_row _ _ _ _ _ _ HI.out.y,← HYB.out,zas _ _ (by rw [HBL.out];exact hlt)]
     have hln:(zbm a b (zaX a b ii) ii k).length=32:=by rw [mulRow_len,mulAll_len]
     have ct:wr.cell? ⟨gt,ii+k,none⟩=some (.int .i64 (gI (zbm a b (zaX a b ii) ii k) (ii+k))):=by rw [cell_of_row _ _ _ _ _ _ HT.out,zas _ _ (by omega)]
     have ft:wr.frozen? ⟨gt,ii+k,none⟩=false:=by have:=HT.out;simp [World.frozen?,this]
     have h1:=HMB.out ii k (ii+k) hlti hk
     have h2:=mul_small (HAB.out ii) (HBB.out k)
     obtain ⟨u,hu⟩:∃ u,gI (zbm a b (zaX a b ii) ii k) (ii+k)=u:=⟨_,rfl⟩
     obtain ⟨p,hp⟩:∃ p,gI a ii*gI b k=p:=⟨_,rfl⟩
     obtain ⟨s,hs⟩:∃ s,u+p=s:=⟨_,rfl⟩
     have hnx:(zbm a b (zaX a b ii) ii k).set (ii+k) s=zbm a b (zaX a b ii) ii (k+1):=by rw [zbm,mulAt,hu,hp,hs]
     have HI2:Hid (AddI w (wr.drew.setCell ⟨gt,ii+k,none⟩ (.int .i64 s)) g XA YB z0):=yh (HI.out.drew.far (gt:=gt) HT.out HGT.out _ _)
     have HT2:Hid ((wr.drew.setCell ⟨gt,ii+k,none⟩ (.int .i64 s)).heap[gt]?=some (.cells (tabI (zbm a b (zaX a b ii) ii (k+1))) 150 (0,0))):=yh (by
      rw [setCell_eq_setRow wr.drew gt (ii+k) _ _ _ (.int .i64 s) HT.out,setRow_heap _ _ _ _ _ _ (show wr.drew.heap[gt]?=_ from HT.out),zaR,hnx])
     rw [hu] at ct h1
     rw [hp] at h2
     generalize gI a ii=A at *
     generalize gI b k=B at *
     have f1:IntKind.i64.wrap p=p:=by rw [IntKind.wrap_i64];omega
     have f2:IntKind.i64.wrap s=s:=by rw [IntKind.wrap_i64];omega
     have f3:IntKind.i64.wrap ((ii:Int)+(k:Int))=(ii:Int)+(k:Int):=by rw [IntKind.wrap_i64];omega
     have e3:((ii:Int)+(k:Int)).toNat=ii+k:=by omega
     have p0:0≤(ii:Int):=by omega
     have p1:0≤(k:Int):=by omega
     have p2:(k:Int)<16:=by omega
     have p3:(ii:Int)<16:=by omega
     have p4:0≤(ii:Int)+(k:Int):=by omega
     have p5:(ii:Int)+(k:Int)<32:=by omega
     clear HI HT hnx hln h1 h2 hu
     go_wp2_with fail
     refine wp_region_still_tail 17 (by kernel_rfl) (by kernel_rfl) ?_
     simp only [List.take_succ_cons,List.take_zero,List.drop_succ_cons,List.drop_zero]
     iterate 17 still_step
     refine wpStill_nil ?_
     go_wp2_with fail
     go_roundw
     case rel=>exact ⟨k+1,by omega,by go_num,HI2,HT2⟩
     case measure=>simp [intOf];omega
    ·have hk16:k=16:=by omega
     rw [hk16] at HT
     have HT2:Hid (wr.heap[gt]?=some (.cells (tabI (zaX a b (ii+1))) 150 (0,0))):=HT
     have dk16:decide ((k:Int)<16)=false:=decide_eq_false (by omega)
     clear HT hk16
     go_wp2_with fail
     go_roundw
     case rel=>exact ⟨ii+1,by omega,by go_num,HI,HT2⟩
     case measure=>simp [intOf];omega
  ·have hi16:ii=16:=by omega
   rw [hi16] at HT
   have dk:decide ((ii:Int)<16)=false:=decide_eq_false (by omega)
   clear hi16
   have hr0:(wr.alloc (.cells z0 56)).heap[wr.heap.size]?=some (.cells z0 56 (0,0)):=heap_alloc_new _ _
   have hlt0:gt<wr.heap.size:=(Array.getElem?_eq_some_iff.1 HT.out).1
   have HZ1:Hid (((wr.alloc (.cells z0 56)).setRow wr.heap.size z0).heap[wr.heap.size]?=some (.cells z0 56 (0,0))):=yh (setRow_heap _ _ _ _ _ _ hr0)
   have HI1:=yh (HI.out.row (.cells z0 56) z0)
   have HT1:Hid (((wr.alloc (.cells z0 56)).setRow wr.heap.size z0).heap[gt]?=some (.cells (tabI (zaX a b 16)) 150 (0,0))):=yh (by rw [setRow_other _ _ _ _ (by omega),heap_alloc_old _ _ (by omega)];exact HT.out)
   have HGZ:Hid (gt<wr.heap.size):=yh hlt0
   clear HI HT hlt0
   go_wp2_with (refine yj z0 hr0 i0 rfl o0 ?_)
   obtain ⟨W5,hW5⟩:∃ W,(wr.alloc (.cells z0 56)).setRow wr.heap.size z0=W:=⟨_,rfl⟩
   obtain ⟨gz,hgz⟩:∃ q,wr.heap.size=q:=⟨_,rfl⟩
   rw [hW5,hgz] at HZ1
   rw [hW5] at HI1 HT1
   rw [hgz] at HGZ
   rw [hW5,hgz]
   obtain ⟨M,hM⟩:∃ M,zaX a b 16=M:=⟨_,rfl⟩
   have hMl:M.length=32:=by rw [← hM,mulAll_len]
   have HMA2:=HMA
   rw [hM] at HT1 HMA2 HNO
   have HML:=yh hMl
   have HZ0:Hid (z0=tabI (opTo (fun i=>gI M i+38*gI M (i+16)) (List.replicate 16 0) 0)):=yh (by
    rw [opTo_zero _ (by simp)]
    exact HZ0E.out.symm)
   have HZ1':Hid (W5.heap[gz]?=some (.cells (tabI (opTo (fun i=>gI M i+38*gI M (i+16)) (List.replicate 16 0) 0)) 56 (0,0))):=yh (by rw [← HZ0.out];exact HZ1.out)
   clear HZ1 HZ0
   clear hr0 hW5 hgz hM hMl HMA
   go_loopw [9] (fun i wr=>∃ k:Nat,k≤16∧i=.int .i64 (k:Int)∧Hid (AddI w wr g XA YB z0)∧Hid (wr.heap[gt]?=some (.cells (tabI M) 150 (0,0)))∧Hid (wr.heap[gz]?=some (.cells (tabI (opTo (fun i=>gI M i+38*gI M (i+16)) (List.replicate 16 0) k)) 56 (0,0)))) (fun i _=>16-(intOf i).toNat)
   case atStart=>exact ⟨0,by omega,rfl,HI1,HT1,HZ1'⟩
   case round =>
    clear HI1 HT1 HZ1'
    obtain ⟨k,hk,rfl,HI,HT,HZ⟩:=hrel
    by_cases hlt:k<16
    ·have c1:wr.cell? ⟨gt,k,none⟩=some (.int .i64 (gI M k)):=by rw [cell_of_row _ _ _ _ _ _ HT.out,zas _ _ (by rw [HML.out];omega)]
     have c2:wr.cell? ⟨gt,k+16,none⟩=some (.int .i64 (gI M (k+16))):=by rw [cell_of_row _ _ _ _ _ _ HT.out,zas _ _ (by rw [HML.out];omega)]
     have cz:wr.cell? ⟨gz,k,none⟩=some (.int .i64 0):=by
      rw [cell_of_row _ _ _ _ _ _ HZ.out,zas _ _ (by rw [opTo_len];exact hlt),opTo_get _ _ _ _ hlt,if_neg (by omega)]
      simp only [gI,List.getD,List.getElem?_replicate]
      split <;> rfl
     have fz:wr.frozen? ⟨gz,k,none⟩=false:=by have:=HZ.out;simp [World.frozen?,this]
     have h1:=HMA2.out k
     have h2:=HMA2.out (k+16)
     obtain ⟨p,hp⟩:∃ p,38*gI M (k+16)=p:=⟨_,rfl⟩
     obtain ⟨s,hs⟩:∃ s,gI M k+p=s:=⟨_,rfl⟩
     have HI2:Hid (AddI w (wr.drew.setCell ⟨gz,k,none⟩ (.int .i64 s)) g XA YB z0):=yh (HI.out.drew.far (gt:=gz) HZ.out (by have:=HGT.out;have:=HGZ.out;omega) _ _)
     have HT2:Hid ((wr.drew.setCell ⟨gz,k,none⟩ (.int .i64 s)).heap[gt]?=some (.cells (tabI M) 150 (0,0))):=yh (by
      rw [setCell_eq_setRow wr.drew gz k _ _ _ (.int .i64 s) HZ.out,setRow_other _ _ _ _ (by have:=HGZ.out;omega)];exact HT.out)
     have HZ2:Hid ((wr.drew.setCell ⟨gz,k,none⟩ (.int .i64 s)).heap[gz]?=some (.cells (tabI (opTo (fun i=>gI M i+38*gI M (i+16)) (List.replicate 16 0) (k+1))) 56 (0,0))):=yh (by
      rw [setCell_eq_setRow wr.drew gz k _ _ _ (.int .i64 s) HZ.out,setRow_heap _ _ _ _ _ _ (show wr.drew.heap[gz]?=_ from HZ.out),zaR,← opTo_set (fun i=>gI M i+38*gI M (i+16)) _ hlt,← hs,← hp])
     generalize gI M k=A at *
     generalize gI M (k+16)=B at *
     have f1:IntKind.i64.wrap p=p:=by rw [IntKind.wrap_i64];omega
     have f2:IntKind.i64.wrap s=s:=by rw [IntKind.wrap_i64];omega
     have f3:IntKind.i64.wrap ((k:Int)+16)=(k:Int)+16:=by rw [IntKind.wrap_i64];omega
     have p1:0≤(k:Int):=by omega
     have p2:(k:Int)<16:=by omega
     have e3:((k:Int)+16).toNat=k+16:=by omega
     have p3:0≤(k:Int)+16:=by omega
     have p4:(k:Int)+16<32:=by omega
     have p5:(k:Int)<32:=by omega
     clear HI HT HZ h1 h2
     go_wp2_with fail
     refine wp_region_still_tail 11 (by kernel_rfl) (by kernel_rfl) ?_
     simp only [List.take_succ_cons,List.take_zero,List.drop_succ_cons,List.drop_zero]
     iterate 11 still_step
     refine wpStill_nil ?_
     go_wp2_with fail
     go_roundw
     case rel=>exact ⟨k+1,by omega,by go_num,HI2,HT2,HZ2⟩
     case measure=>simp [intOf];omega
    ·obtain rfl:k=16:=by omega
     rw [opTo_end,show (List.range 16).map (fun i=>gI M i+38*gI M (i+16))=foldM M from rfl] at HZ
     have h1:=HZ.out
     have s1:(Tryz.prog.info? 56).map (·.size)=some (tabI (foldM M)).size:=za9 (by simp [foldM])
     generalize tabI (foldM M)=T1 at *
     go_wp2_with (refine yi h1 Tryz.underlying56 s1 ?_)
     with_reducible refine (HNO.out _).mono ?_
     rintro e w2 ⟨rfl,hb2⟩
     have HI2:=HI.out.call hb2
     have h0:=HI2.z
     have HB:=yh (show Below w.heap.size w (w2.setRow (g+1+1) R) by rw [HG.out];exact zab HI2.below (by omega))
     clear hb2 HI HI2 h1 HT HZ
     go_wp2_with (refine yj R h0 iR zR oR ?_)
     (try simp only [Exit.inBlock,Exit.then])
     refine bodyPost_ret (results_cell_row rfl _ _ (g+1+1) _ R _ _ rfl (setRow_heap _ _ _ _ _ _ h0) Tryz.underlying56 rfl iR) rfl ?_
     exact ⟨rfl,HB.out⟩
end Go.Proofs.YtkgodlcnoenmbaaGreat
namespace Go.Proofs.YtkgodlcnoenmbaaGreat
open Go.RowKit
set_option linter.unusedVariables false
set_option maxRecDepth 100000
set_option maxHeartbeats 800000 in
theorem rodd9_any (x:Int) (w:World):Calls Tryz.prog 66 #[.agg (tabI (dgN 16 x))] w fun e w'=>e=.returned (.bool (x % 2 == 1))∧Below w.heap.size w w':=by
 obtain ⟨d,hd⟩:∃ d,x % 65536=d:=⟨_,rfl⟩
 have hdd:(x % 2 == 1)=(d % 2 == 1):=by
  have:x % 2=d % 2:=by omega
  rw [this]
 have hd0:0≤d:=by omega
 have t1:d.tmod 2=d % 2:=Int.tmod_eq_emod_of_nonneg hd0
 have h0:(w.alloc (.cells (tabI (dgN 16 x)) 56)).heap[w.heap.size]?=some (.cells (tabI (dgN 16 x)) 56 (0,0)):=heap_alloc_new _ _
 have c0:(w.alloc (.cells (tabI (dgN 16 x)) 56)).cell? ⟨w.heap.size,0,none⟩=some (.int .i64 d):=by
  rw [cell_of_row _ _ _ _ _ _ h0,zas _ _ (by rw [zaD];omega),dgN,gI_zero,hd]
 have HB:=yh ((Below.refl w.heap.size w).alloc (Nat.le_refl _) (.cells (tabI (dgN 16 x)) 56))
 rw [hdd]
 generalize tabI (dgN 16 x)=X at *
 clear hd hdd h0
 go_enter Tryz.func66,Tryz.ntmps66
 go_wp2_with fail
 go_ret
 exact ⟨rfl,HB.out⟩
theorem u64_andM (q:Nat) (h:q<18446744073709551616):bits .and .u64 (q:Int) 65535=((q % 65536:Nat):Int):=by
 have h:=bits_and_u64_nat q 65535 h (by omega)
 rw [show (65535:Nat)=2^16-1 by decide,Nat.and_two_pow_sub_one_eq_mod] at h
 exact h
def za1 (n:Nat) (i:Nat):Int:=if i<4 then ((n/65536^i % 65536:Nat):Int) else 0
theorem small_dg (n:Nat) (h:n<18446744073709551616):opTo (za1 n) (List.replicate 16 0) 4=dgN 16 (n:Int):=by
 have e:dgN 16 (n:Int)=dgN 16 (vL (opTo (za1 n) (List.replicate 16 0) 4)):=by
  congr 1
  have ho:opTo (za1 n) (List.replicate 16 0) 4=[za1 n 0,za1 n 1,za1 n 2,za1 n 3,0,0,0,0,0,0,0,0,0,0,0,0]:=rfl
  rw [ho]
  have s0:za1 n 0=((n % 65536:Nat):Int):=by simp [za1]
  have s1:za1 n 1=((n/65536 % 65536:Nat):Int):=by simp [za1]
  have s2:za1 n 2=((n/4294967296 % 65536:Nat):Int):=by simp [za1]
  have s3:za1 n 3=((n/281474976710656 % 65536:Nat):Int):=by simp [za1]
  rw [s0,s1,s2,s3]
  simp only [vL]
  omega
 rw [e]
 have hl:(opTo (za1 n) (List.replicate 16 0) 4).length=16:=opTo_len _ _ _
 have:=dg_unique (opTo (za1 n) (List.replicate 16 0) 4) (fun i hi=>by
  rw [hl] at hi
  rw [opTo_get _ _ _ _ hi]
  split
  ·unfold za1
   split <;> omega
  ·have:gI (List.replicate 16 0) i=0:=by
    simp only [gI,List.getD,List.getElem?_replicate]
    split <;> rfl
   omega)
 rw [hl] at this
 exact this
set_option maxHeartbeats 1600000 in
theorem rsmall9_any (n:Nat) (hn:n<18446744073709551616) (w:World):Calls Tryz.prog 72 #[.int .u64 (n:Int)] w fun e w'=>e=.returned (.agg (tabI (dgN 16 (n:Int))))∧Below w.heap.size w w':=by
 rw [← small_dg n hn]
 have hz:=fun u=>zero_fe u
 obtain ⟨t0,ht0⟩:∃ t,tabI (List.replicate 16 0)=t:=⟨_,rfl⟩
 rw [ht0] at hz
 have s0:(Tryz.prog.info? 56).map (·.size)=some t0.size:=by rw [← ht0];exact za9 (by simp)
 have o0:t0.all (·.oneCell')=true:=by rw [← ht0];exact zaZ _
 have n0:t0.size=16:=by rw [← ht0,zaB];simp
 have h2:((w.alloc (.cells t0 56)).alloc (.cells t0 56)).heap[w.heap.size+1]?=some (.cells t0 56 (0,0)):=heap_alloc2_new _ _ _
 have h0:((w.alloc (.cells t0 56)).alloc (.cells t0 56)).heap[w.heap.size]?=some (.cells t0 56 (0,0)):=heap_alloc2_old _ _ _
 obtain ⟨W1,hW1⟩:∃ W,((w.alloc (.cells t0 56)).alloc (.cells t0 56)).setRow (w.heap.size+1) t0=W:=⟨_,rfl⟩
 obtain ⟨g,hg⟩:∃ g,w.heap.size=g:=⟨_,rfl⟩
 have b1:W1.heap[g+1]?=some (.cells (tabI (opTo (za1 n) (List.replicate 16 0) 0)) 56 (0,0)):=by rw [← hW1,← hg,opTo_zero _ (by simp),ht0];exact setRow_heap _ _ _ _ _ _ h2
 have b0:W1.heap[g]?=some (.cells t0 56 (0,0)):=by rw [← hW1,← hg,setRow_other _ _ _ _ (by omega)];exact h0
 have bb:Below g w W1:=by rw [← hW1,← hg];exact zab (((Below.refl w.heap.size w).alloc (Nat.le_refl _) _).alloc (by simp) _) (by omega)
 have HB1:=yh b1
 have HB0:=yh b0
 have HBE:=yh bb
 have HG:=yh hg
 have HW:=yh hW1
 clear b1 b0 bb ht0 hW1 hg
 go_enter Tryz.func72,Tryz.ntmps72
 go_wp2_with (refine yj t0 h2 s0 rfl o0 ?_)
 rw [HW.out,HG.out]
 clear h0 h2 HW
 go_loopw [4] (fun i wr=>∃ k:Nat,k≤4∧i=.int .i64 (k:Int)∧Hid (wr.heap[g]?=some (.cells t0 56 (0,0)))∧Hid (wr.heap[g+1]?=some (.cells (tabI (opTo (za1 n) (List.replicate 16 0) k)) 56 (0,0)))∧Hid (Below g w wr)) (fun i _=>4-(intOf i).toNat)
 case atStart=>exact ⟨0,by omega,rfl,HB0,HB1,HBE⟩
 case round =>
  clear HB0 HB1 HBE
  obtain ⟨k,hk,rfl,HB0,HB1,HBE⟩:=hrel
  by_cases hlt:k<4
  ·have hl:(opTo (za1 n) (List.replicate 16 0) k).length=16:=opTo_len _ _ _
   have hck:wr.cell? ⟨g+1,k,none⟩=some (.int .i64 (gI (opTo (za1 n) (List.replicate 16 0) k) k)):=by rw [cell_of_row _ _ _ _ _ _ HB1.out,zas _ _ (by omega)]
   have hfz:wr.frozen? ⟨g+1,k,none⟩=false:=by have:=HB1.out;simp [World.frozen?,this]
   obtain ⟨v,hv⟩:∃ v,za1 n k=v:=⟨_,rfl⟩
   have e:=setCell_eq_setRow wr (g+1) k _ _ _ (.int .i64 v) HB1.out
   have n1:Hid ((wr.setCell ⟨g+1,k,none⟩ (.int .i64 v)).heap[g]?=some (.cells t0 56 (0,0))):=yh (by rw [e,setRow_other _ _ _ _ (by omega)];exact HB0.out)
   have n2:Hid ((wr.setCell ⟨g+1,k,none⟩ (.int .i64 v)).heap[g+1]?=some (.cells (tabI (opTo (za1 n) (List.replicate 16 0) (k+1))) 56 (0,0))):=yh (by
    rw [e,setRow_heap _ _ _ _ _ _ HB1.out,zaR,← opTo_set (za1 n) _ (by omega),hv])
   have n3:Hid (Below g w (wr.setCell ⟨g+1,k,none⟩ (.int .i64 v))):=yh (HBE.out.setCell (p:=⟨g+1,k,none⟩) (by show g≤g+1;omega) _)
   generalize gI (opTo (za1 n) (List.replicate 16 0) k) k=old at *
   obtain ⟨s,hs⟩:∃ s,16*k=s:=⟨_,rfl⟩
   obtain ⟨q,hq⟩:∃ q,n/2^s=q:=⟨_,rfl⟩
   have hql:q<18446744073709551616:=by rw [← hq];exact Nat.lt_of_le_of_lt (Nat.div_le_self _ _) hn
   have hvq:v=((q % 65536:Nat):Int):=by
    rw [← hv,← hq,← hs]
    unfold za1
    rw [if_pos hlt,Nat.pow_mul]
   have f0:(16:Int)*(k:Int)=(s:Int):=by omega
   have f1:IntKind.u64.wrap (s:Int)=(s:Int):=by rw [IntKind.wrap_u64];omega
   have f2:(n:Int)/2^s=(q:Int):=by rw [← hq];simp
   have f3:bits .and .u64 (q:Int) 65535=v:=by rw [u64_andM q hql,hvq]
   have f4:IntKind.i64.wrap v=v:=by rw [IntKind.wrap_i64,hvq];omega
   have hs64:s<64:=by omega
   have p1:0≤(k:Int):=by omega
   have p2:(k:Int)<16:=by omega
   clear e hl HB0 HB1 HBE hv hs hq hvq
   go_wp2_with fail
   go_roundw
   case rel=>exact ⟨k+1,by omega,by go_num,n1,n2,n3⟩
   case measure=>simp [intOf];omega
  ·obtain rfl:k=4:=by omega
   have h1:=HB1.out
   have h0:=HB0.out
   have hfl:(opTo (za1 n) (List.replicate 16 0) 4).length=16:=opTo_len _ _ _
   have s1:(Tryz.prog.info? 56).map (·.size)=some (tabI (opTo (za1 n) (List.replicate 16 0) 4)).size:=za9 hfl
   have sz:t0.size=(tabI (opTo (za1 n) (List.replicate 16 0) 4)).size:=by rw [n0,zaB,hfl]
   have o1:=zaZ (opTo (za1 n) (List.replicate 16 0) 4)
   have HB:=yh (zab (cs:=tabI (opTo (za1 n) (List.replicate 16 0) 4)) HBE.out (Nat.le_refl g))
   obtain ⟨t1,ht1⟩:∃ t,tabI (opTo (za1 n) (List.replicate 16 0) 4)=t:=⟨_,rfl⟩
   rw [ht1] at h1 s1 sz o1 HB
   have HT1:=yh ht1
   clear ht1 hfl HB0 HB1 HBE
   go_wp2_with (first
    | (refine yi h1 Tryz.underlying56 s1 ?_)
    | (refine yj t1 h0 s1 sz o1 ?_))
   (try simp only [Exit.inBlock,Exit.then])
   refine bodyPost_ret (results_cell_row rfl _ _ g _ t1 _ _ rfl (setRow_heap _ _ _ _ _ _ h0) Tryz.underlying56 rfl s1) rfl ?_
   exact ⟨by rw [HT1.out],by rw [HG.out];exact HB.out⟩
end Go.Proofs.YtkgodlcnoenmbaaGreat
namespace Go.Proofs.YtkgodlcnoenmbaaGreat
open Go.RowKit
set_option linter.unusedVariables false
set_option maxRecDepth 100000
structure Tri (t0 t1 t2:TypeId) (w wr:World) (g:Nat) (X Y Z:Array Value):Prop where
 x:wr.heap[g]?=some (.cells X t0 (0,0))
 y:wr.heap[g+1]?=some (.cells Y t1 (0,0))
 z:wr.heap[g+1+1]?=some (.cells Z t2 (0,0))
 below:Below g w wr
section
variable {t0 t1 t2:TypeId} {w wr W:World} {g:Nat} {X Y Z:Array Value}
theorem Tri.lt (h:Tri t0 t1 t2 w wr g X Y Z):g+1+1<wr.heap.size:=(Array.getElem?_eq_some_iff.1 h.z).1
theorem Tri.drew (h:Tri t0 t1 t2 w wr g X Y Z):Tri t0 t1 t2 w wr.drew g X Y Z:=⟨h.x,h.y,h.z,h.below.drew⟩
theorem Tri.set (h:Tri t0 t1 t2 w wr g X Y Z) (k:Nat) (v:Value):Tri t0 t1 t2 w (wr.setCell ⟨g+1+1,k,none⟩ v) g X Y (Z.setIfInBounds k v):=by
 have e:=setCell_eq_setRow wr (g+1+1) k _ _ _ v h.z
 exact ⟨by rw [e,setRow_other _ _ _ _ (by omega)];exact h.x,by rw [e,setRow_other _ _ _ _ (by omega)];exact h.y,by rw [e,setRow_heap _ _ _ _ _ _ h.z],h.below.setCell (p:=⟨g+1+1,k,none⟩) (by show g≤g+1+1;omega) _⟩
theorem Tri.call (h:Tri t0 t1 t2 w wr g X Y Z) (hb:Below wr.heap.size wr W):Tri t0 t1 t2 w W g X Y Z:=by
 have hl:=h.lt
 exact ⟨by rw [hb.block _ (by omega)];exact h.x,by rw [hb.block _ (by omega)];exact h.y,by rw [hb.block _ (by omega)];exact h.z,h.below.trans (hb.mono (by omega))⟩
theorem tri_two (w:World) (X Y:Array Value) (t0 t1:TypeId):((w.alloc (.cells X t0)).alloc (.cells Y t1)).heap.size=w.heap.size+1+1:=by rw [World.size_alloc,World.size_alloc]
theorem tri_new (w:World) (X Y Z0:Array Value) (t0 t1 t2:TypeId):(((w.alloc (.cells X t0)).alloc (.cells Y t1)).alloc (.cells Z0 t2)).heap[w.heap.size+1+1]?=some (.cells Z0 t2 (0,0)):=by
 rw [← tri_two w X Y t0 t1];exact heap_alloc_new _ _
theorem tri_start (w:World) (X Y Z0 Z:Array Value) (t0 t1 t2:TypeId):Tri t0 t1 t2 w ((((w.alloc (.cells X t0)).alloc (.cells Y t1)).alloc (.cells Z0 t2)).setRow (w.heap.size+1+1) Z) w.heap.size X Y Z:=by
 refine ⟨?_,?_,setRow_heap _ _ _ _ _ _ (tri_new w X Y Z0 t0 t1 t2),zab ((((Below.refl w.heap.size w).alloc (Nat.le_refl _) _).alloc (by simp) _).alloc (by simp;omega) _) (by omega)⟩
 ·rw [setRow_other _ _ _ _ (by omega),heap_alloc_old _ _ (by rw [World.size_alloc,World.size_alloc];omega)];exact heap_alloc2_old _ _ _
 ·rw [setRow_other _ _ _ _ (by omega),heap_alloc_old _ _ (by rw [World.size_alloc,World.size_alloc];omega)];exact heap_alloc2_new _ _ _
theorem Tri.fz (h:Tri t0 t1 t2 w wr g X Y Z) (k:Nat):wr.frozen? ⟨g+1+1,k,none⟩=false:=by have:=h.z;simp [World.frozen?,this]
end
set_option maxHeartbeats 1600000 in
theorem rfrom9_any (l:List UInt8) (hl:l.length=32) (w:World) :
  Calls Tryz.prog 97 #[.agg (arrB l)] w fun e w'=>e=.returned (.agg (tabI (dgN 16 (feN l:Int))))∧Below w.heap.size w w':=by
 have hz:=fun u=>zero_fe u
 obtain ⟨z0,hz0e⟩:∃ t,tabI (List.replicate 16 0)=t:=⟨_,rfl⟩
 rw [hz0e] at hz
 have n0:z0.size=16:=by rw [← hz0e,zaB];simp
 have s0:(Tryz.prog.info? 56).map (·.size)=some z0.size:=by rw [← hz0e];exact za9 (by simp)
 have o0:z0.all (·.oneCell')=true:=by rw [← hz0e];exact zaZ _
 have hval:=digits_top hl
 have hbd:Bd 70368744177664 (((List.range 16).map (zbf l)).set 15 (zbf l 15 % 32768)):=fun i=>by
  rw [gI_set _ _ _ _ (by simp)]
  by_cases e:15=i
  ·rw [if_pos e];omega
  ·rw [if_neg e]
   by_cases hi:i<16
   ·rw [gI_range _ _ hi];have:=digitF_bd l i;omega
   ·rw [gI_out (by simp;omega)];omega
 have hlt:leN l % TT<TT:=Nat.mod_lt _ (by decide)
 have HNO:Hid (∀ W:World,Calls Tryz.prog 117 #[.agg (tabI (((List.range 16).map (zbf l)).set 15 (zbf l 15 % 32768)))] W fun e w'=>e=.returned (.agg (tabI (dgN 16 (feN l:Int))))∧Below W.heap.size W w'):=yh fun W=>by
  have h:=rnorm9_any _ (by simp) hbd (by rw [hval];unfold P255;omega) (by rw [hval];unfold P255 TT at *;omega) W
  rw [hval] at h
  rwa [show ((leN l % TT:Nat):Int) % pP=(feN l:Int) by unfold feN pP PP;omega] at h
 obtain ⟨R,hR⟩:∃ R,tabI (dgN 16 (feN l:Int))=R:=⟨_,rfl⟩
 have nR:R.size=16:=by rw [← hR,zaB,zaD]
 have oR:R.all (·.oneCell')=true:=by rw [← hR];exact zaZ _
 have iR:(Tryz.prog.info? 56).map (·.size)=some R.size:=by rw [← hR];exact za9 (zaD _ _)
 have zR:z0.size=R.size:=by rw [n0,nR]
 rw [hR] at HNO ⊢
 have HL:=yh hl
 obtain ⟨BB,hBB⟩:∃ X,arrB l=X:=⟨_,rfl⟩
 have HBB:=yh hBB
 rw [hBB]
 have h2:=tri_new w BB z0 z0 22 56 56
 have HI:Hid (Tri 22 56 56 w ((((w.alloc (.cells BB 22)).alloc (.cells z0 56)).alloc (.cells z0 56)).setRow (w.heap.size+1+1) z0) w.heap.size BB z0 (tabI (opTo (zbf l) (List.replicate 16 0) 0))):=yh (by rw [opTo_zero _ (by simp),hz0e];exact tri_start _ _ _ _ _ _ _ _)
 clear hz0e n0 hval hbd hlt hR nR hBB hl
 go_enter Tryz.func97,Tryz.ntmps97
 go_wp2_with (refine yj z0 h2 s0 rfl o0 ?_)
 obtain ⟨W1,hW1⟩:∃ W,(((w.alloc (.cells BB 22)).alloc (.cells z0 56)).alloc (.cells z0 56)).setRow (w.heap.size+1+1) z0=W:=⟨_,rfl⟩
 obtain ⟨g,hg⟩:∃ g,w.heap.size=g:=⟨_,rfl⟩
 rw [hg] at hW1
 rw [hg,hW1] at HI
 rw [hg,hW1]
 have HG:=yh hg
 clear hW1 hg h2
 go_loopw [4] (fun i wr=>∃ k:Nat,k≤16∧i=.int .i64 (k:Int)∧Hid (Tri 22 56 56 w wr g BB z0 (tabI (opTo (zbf l) (List.replicate 16 0) k)))) (fun i _=>16-(intOf i).toNat)
 case atStart=>exact ⟨0,by omega,rfl,HI⟩
 case round =>
  clear HI
  obtain ⟨k,hk,rfl,HI⟩:=hrel
  by_cases hlt:k<16
  ·obtain ⟨j,hj⟩:∃ j,2*k=j:=⟨_,rfl⟩
   obtain ⟨j1,hj1⟩:∃ j1,j+1=j1:=⟨_,rfl⟩
   obtain ⟨u,hu⟩:∃ u:Int,((l.getD j 0).toNat:Int)=u:=⟨_,rfl⟩
   obtain ⟨v,hv⟩:∃ v:Int,((l.getD j1 0).toNat:Int)=v:=⟨_,rfl⟩
   have cx:wr.cell? ⟨g,j,none⟩=some (.int .u8 u):=by rw [cell_of_row _ _ _ _ _ _ HI.out.x,← HBB.out,zaE _ _ (by rw [HL.out];omega),hu]
   have cy:wr.cell? ⟨g,j1,none⟩=some (.int .u8 v):=by rw [cell_of_row _ _ _ _ _ _ HI.out.x,← HBB.out,zaE _ _ (by rw [HL.out];omega),hv]
   have fx:=HI.out.fz k
   have cz:wr.cell? ⟨g+1+1,k,none⟩=some (.int .i64 (gI (opTo (zbf l) (List.replicate 16 0) k) k)):=by rw [cell_of_row _ _ _ _ _ _ HI.out.z,zas _ _ (by rw [opTo_len];exact hlt)]
   have hub:0≤u∧u<256:=by have:=(l.getD j 0).toNat_lt;omega
   have hvb:0≤v∧v<256:=by have:=(l.getD j1 0).toNat_lt;omega
   obtain ⟨p,hp⟩:∃ p,256*v=p:=⟨_,rfl⟩
   obtain ⟨s,hs⟩:∃ s,u+p=s:=⟨_,rfl⟩
   have hds:zbf l k=s:=by unfold zbf;rw [hj,hj1,hu,hv,hp,hs]
   have HI2:Hid (Tri 22 56 56 w (wr.drew.setCell ⟨g+1+1,k,none⟩ (.int .i64 s)) g BB z0 (tabI (opTo (zbf l) (List.replicate 16 0) (k+1)))):=yh (by
    rw [← opTo_set (zbf l) _ hlt,hds,← zaR]
    exact (HI.out.drew).set k _)
   generalize gI (opTo (zbf l) (List.replicate 16 0) k) k=old at *
   have f0:(2:Int)*(k:Int)=(j:Int):=by omega
   have f0':IntKind.i64.wrap (j:Int)=(j:Int):=by rw [IntKind.wrap_i64];omega
   have f1:(j:Int)+1=(j1:Int):=by omega
   have f1':IntKind.i64.wrap (j1:Int)=(j1:Int):=by rw [IntKind.wrap_i64];omega
   have f2':IntKind.i64.wrap u=u:=by rw [IntKind.wrap_i64];omega
   have f3':IntKind.i64.wrap v=v:=by rw [IntKind.wrap_i64];omega
   have f4':IntKind.i64.wrap p=p:=by rw [IntKind.wrap_i64];omega
   have f5':IntKind.i64.wrap s=s:=by rw [IntKind.wrap_i64];omega
   have b1:0≤(j:Int):=by omega
   have b2:(j:Int)<32:=by omega
   have b3:0≤(j1:Int):=by omega
   have b4:(j1:Int)<32:=by omega
   have b5:0≤(k:Int):=by omega
   have b6:(k:Int)<16:=by omega
   clear HI hj hj1 hu hv hub hvb hds
   go_wp2_with fail
   refine wp_region_still_tail 15 (by kernel_rfl) (by kernel_rfl) ?_
   simp only [List.take_succ_cons,List.take_zero,List.drop_succ_cons,List.drop_zero]
   iterate 15 still_step
   refine wpStill_nil ?_
   go_wp2_with fail
   go_roundw
   case rel=>exact ⟨k+1,by omega,by go_num,HI2⟩
   case measure=>simp [intOf];omega
  ·obtain rfl:k=16:=by omega
   rw [opTo_end] at HI
   have cz:wr.cell? ⟨g+1+1,15,none⟩=some (.int .i64 (zbf l 15)):=by rw [cell_of_row _ _ _ _ _ _ HI.out.z,zas _ _ (by simp),gI_range _ _ (by omega)]
   have fx:=HI.out.fz 15
   obtain ⟨d,hd⟩:∃ d,zbf l 15=d:=⟨_,rfl⟩
   obtain ⟨m,hm⟩:∃ m,d % 32768=m:=⟨_,rfl⟩
   have f1:bits .and .i64 d 32767=m:=by rw [i64_and32767,hm]
   have HI2:Hid (Tri 22 56 56 w (wr.setCell ⟨g+1+1,15,none⟩ (.int .i64 m)) g BB z0 (tabI (((List.range 16).map (zbf l)).set 15 (zbf l 15 % 32768)))):=yh (by
    rw [hd,hm,← zaR]
    exact HI.out.set 15 _)
   rw [hd] at cz
   have h1:=HI2.out.z
   have s1:(Tryz.prog.info? 56).map (·.size)=some (tabI (((List.range 16).map (zbf l)).set 15 (zbf l 15 % 32768))).size:=za9 (by simp)
   generalize tabI (((List.range 16).map (zbf l)).set 15 (zbf l 15 % 32768))=T1 at *
   clear HI hd hm
   go_wp2_with (refine yi h1 Tryz.underlying56 s1 ?_)
   with_reducible refine (HNO.out _).mono ?_
   rintro e w2 ⟨rfl,hb2⟩
   have HI3:=HI2.out.call hb2
   have h0:=HI3.y
   have HB:=yh (show Below w.heap.size w (w2.setRow (g+1) R) by rw [HG.out];exact zab HI3.below (by omega))
   clear hb2 HI2 HI3 h1
   go_wp2_with (refine yj R h0 iR zR oR ?_)
   (try simp only [Exit.inBlock,Exit.then])
   refine bodyPost_ret (results_cell_row rfl _ _ (g+1) _ R _ _ rfl (setRow_heap _ _ _ _ _ _ h0) Tryz.underlying56 rfl iR) rfl ?_
   exact ⟨rfl,HB.out⟩
end Go.Proofs.YtkgodlcnoenmbaaGreat
namespace Go.Proofs.YtkgodlcnoenmbaaGreat
open Go.RowKit
set_option linter.unusedVariables false
set_option maxRecDepth 100000
theorem i64_and255 (n:Int):bits .and .i64 n 255=n % 256:=by
 have h127:(BitVec.ofInt 64 255).toNat=2^8-1:=by decide
 have key:(BitVec.ofInt 64 n &&& BitVec.ofInt 64 255).toNat=(n % ((2^64:Nat):Int)).toNat % 2^8:=by
  rw [BitVec.toNat_and,h127,Nat.and_two_pow_sub_one_eq_mod,BitVec.toNat_ofInt]
 show IntKind.i64.wrap ((BitVec.ofInt 64 n &&& BitVec.ofInt 64 255).toNat:Nat)=n % 256
 rw [key,IntKind.wrap_i64]
 omega
set_option maxHeartbeats 1600000 in
theorem rbytes9_any (x:Nat) (w:World):Calls Tryz.prog 64 #[.agg (tabI (dgN 16 (x:Int)))] w fun e w'=>e=.returned (.agg (arrB (leB 32 x)))∧Below w.heap.size w w':=by
 have hz:=fun u=>zbp 22 (arrB (List.replicate 32 0)) 32 (by kernel_rfl) u
 obtain ⟨z0,hz0e⟩:∃ z,arrB (List.replicate 32 0)=z:=⟨_,rfl⟩
 have n0:z0.size=32:=by rw [← hz0e,zar];simp
 rw [hz0e] at hz
 have s0:(Tryz.prog.info? 22).map (·.size)=some z0.size:=by rw [n0];kernel_rfl
 have o0:z0.all (·.oneCell')=true:=by rw [← hz0e];exact zax _
 obtain ⟨XX,hXX⟩:∃ X,tabI (dgN 16 (x:Int))=X:=⟨_,rfl⟩
 have HXX:=yh hXX
 rw [hXX]
 obtain ⟨R,hR⟩:∃ R,arrB (leB 32 x)=R:=⟨_,rfl⟩
 have HR:=yh hR
 have nR:R.size=32:=by rw [← hR,zar,zaq]
 have oR:R.all (·.oneCell')=true:=by rw [← hR];exact zax _
 have iR:(Tryz.prog.info? 22).map (·.size)=some R.size:=by rw [nR];kernel_rfl
 have zR:z0.size=R.size:=by rw [n0,nR]
 rw [hR]
 have h2:=tri_new w XX z0 z0 56 22 22
 have HI:Hid (Tri 56 22 22 w ((((w.alloc (.cells XX 56)).alloc (.cells z0 22)).alloc (.cells z0 22)).setRow (w.heap.size+1+1) z0) w.heap.size XX z0 (arrB (zbI x 0))):=yh (by rw [byteTo_zero,hz0e];exact tri_start _ _ _ _ _ _ _ _)
 clear hz0e n0 hXX hR nR
 go_enter Tryz.func64,Tryz.ntmps64
 go_wp2_with (refine yj z0 h2 s0 rfl o0 ?_)
 obtain ⟨W1,hW1⟩:∃ W,(((w.alloc (.cells XX 56)).alloc (.cells z0 22)).alloc (.cells z0 22)).setRow (w.heap.size+1+1) z0=W:=⟨_,rfl⟩
 obtain ⟨g,hg⟩:∃ g,w.heap.size=g:=⟨_,rfl⟩
 rw [hg] at hW1
 rw [hg,hW1] at HI
 rw [hg,hW1]
 have HG:=yh hg
 clear hW1 hg h2
 go_loopw [4] (fun i wr=>∃ k:Nat,k≤16∧i=.int .i64 (k:Int)∧Hid (Tri 56 22 22 w wr g XX z0 (arrB (zbI x k)))) (fun i _=>16-(intOf i).toNat)
 case atStart=>exact ⟨0,by omega,rfl,HI⟩
 case round =>
  clear HI
  obtain ⟨k,hk,rfl,HI⟩:=hrel
  by_cases hlt:k<16
  ·obtain ⟨j,hj⟩:∃ j,2*k=j:=⟨_,rfl⟩
   obtain ⟨j1,hj1⟩:∃ j1,j+1=j1:=⟨_,rfl⟩
   have hst:=byteTo_step x k hlt
   have hbl:=byteTo_len x k
   obtain ⟨y,hy⟩:∃ y,x/65536^k % 65536=y:=⟨_,rfl⟩
   obtain ⟨d,hd⟩:∃ d:Int,(y:Int)=d:=⟨_,rfl⟩
   have cx:wr.cell? ⟨g,k,none⟩=some (.int .i64 d):=by rw [cell_of_row _ _ _ _ _ _ HI.out.x,← HXX.out,zas _ _ (by rw [zaD];exact hlt),dgN_getN _ _ _ hlt,hy,hd]
   rw [hy,hj,hj1] at hst
   have hyl:y<65536:=by rw [← hy];exact Nat.mod_lt _ (by omega)
   obtain ⟨lo,hlo⟩:∃ a:Int,d % 256=a:=⟨_,rfl⟩
   obtain ⟨hi,hhi⟩:∃ a:Int,d/256=a:=⟨_,rfl⟩
   have el:(((UInt8.ofNat (y % 256)).toNat:Nat):Int)=lo:=by simp;omega
   have eh:(((UInt8.ofNat (y/256)).toNat:Nat):Int)=hi:=by simp;omega
   have cz:wr.cell? ⟨g+1+1,j,none⟩=some (.int .u8 (((zbI x k).getD j 0).toNat:Int)):=by rw [cell_of_row _ _ _ _ _ _ HI.out.z,zaE _ _ (by omega)]
   have fx:=HI.out.fz j
   have HJ1:=HI.out.set j (.int .u8 lo)
   rw [← el,za3,el] at HJ1
   have cz1:(wr.setCell ⟨g+1+1,j,none⟩ (.int .u8 lo)).cell? ⟨g+1+1,j1,none⟩=some (.int .u8 ((((zbI x k).set j (UInt8.ofNat (y % 256))).getD j1 0).toNat:Int)):=by rw [cell_of_row _ _ _ _ _ _ HJ1.z,zaE _ _ (by rw [List.length_set];omega)]
   have fx1:=HJ1.fz j1
   have HJ2:=HJ1.set j1 (.int .u8 hi)
   rw [← eh,za3,eh,hst] at HJ2
   have HI2:=yh HJ2
   generalize (((zbI x k).set j (UInt8.ofNat (y % 256))).getD j1 0)=old1 at *
   generalize ((zbI x k).getD j 0)=old at *
   have f0:(2:Int)*(k:Int)=(j:Int):=by omega
   have f1:(j:Int)+1=(j1:Int):=by omega
   have f2:bits .and .i64 d 255=lo:=by rw [i64_and255,hlo]
   have f3:IntKind.u8.wrap lo=lo:=by rw [IntKind.wrap_u8];omega
   have f4:IntKind.u8.wrap hi=hi:=by rw [IntKind.wrap_u8];omega
   have b1:0≤(j:Int):=by omega
   have b2:(j:Int)<32:=by omega
   have b3:0≤(j1:Int):=by omega
   have b4:(j1:Int)<32:=by omega
   have b5:0≤(k:Int):=by omega
   have b6:(k:Int)<16:=by omega
   clear HI hj hj1 hst hbl hy hd hyl hlo el eh HJ1 HJ2
   go_wp2_with fail
   go_roundw
   case rel=>exact ⟨k+1,by omega,by go_num,HI2⟩
   case measure=>simp [intOf];omega
  ·obtain rfl:k=16:=by omega
   rw [byteTo_end,HR.out] at HI
   have h1:=HI.out.z
   have h0:=HI.out.y
   have HB:=yh (show Below w.heap.size w (wr.setRow (g+1) R) by rw [HG.out];exact zab HI.out.below (by omega))
   clear HI
   go_wp2_with (first
    | (refine yi h1 Tryz.underlying22 iR ?_)
    | (refine yj R h0 iR zR oR ?_))
   (try simp only [Exit.inBlock,Exit.then])
   refine bodyPost_ret (results_cell_row rfl _ _ (g+1) _ R _ _ rfl (setRow_heap _ _ _ _ _ _ h0) Tryz.underlying22 rfl iR) rfl ?_
   exact ⟨rfl,HB.out⟩
set_option maxHeartbeats 1600000 in
theorem rcan9_any (l:List UInt8) (hl:l.length=32) (w:World):Calls Tryz.prog 96 #[.agg (arrB l)] w fun e w'=>e=.returned (.bool (canN l))∧Below w.heap.size w w':=by
 rw [← canN_iff hl]
 have htl:=topC_len l
 rw [hl] at htl
 have HFR:Hid (∀ W:World,Calls Tryz.prog 97 #[.agg (arrB (topC l))] W fun e w'=>e=.returned (.agg (tabI (dgN 16 (feN (topC l):Int))))∧Below W.heap.size W w'):=yh fun W=>rfrom9_any _ htl W
 have HBY:Hid (∀ W:World,Calls Tryz.prog 64 #[.agg (tabI (dgN 16 (feN (topC l):Int)))] W fun e w'=>e=.returned (.agg (arrB (leB 32 (feN (topC l)))))∧Below W.heap.size W w'):=yh fun W=>rbytes9_any _ W
 have heq:=fun u:World=>eqB_run (P:=Tryz.prog) 22 5 32 (leB 32 (feN (topC l))) (topC l) (zaq _ _) htl Tryz.underlying22 Tryz.underlying5 (fun w=>by kernel_rfl) (fun w=>by kernel_rfl) u
 obtain ⟨res,hres⟩:∃ r,decide (leB 32 (feN (topC l))=topC l)=r:=⟨_,rfl⟩
 rw [hres] at heq ⊢
 obtain ⟨Q,hQ⟩:∃ Q,tabI (dgN 16 (feN (topC l):Int))=Q:=⟨_,rfl⟩
 rw [hQ] at HFR HBY
 obtain ⟨B2,hB2⟩:∃ B,arrB (leB 32 (feN (topC l)))=B:=⟨_,rfl⟩
 rw [hB2] at HBY heq
 have h0:(w.alloc (.cells (arrB l) 22)).heap[w.heap.size]?=some (.cells (arrB l) 22 (0,0)):=heap_alloc_new _ _
 obtain ⟨a,ha⟩:∃ a,l.getD 31 0=a:=⟨_,rfl⟩
 have cx:(w.alloc (.cells (arrB l) 22)).cell? ⟨w.heap.size,31,none⟩=some (.int .u8 (a.toNat:Int)):=by rw [cell_of_row _ _ _ _ _ _ h0,zaE _ _ (by omega),ha]
 have f1:bits .and .u8 (a.toNat:Int) 127=((a &&& 127).toNat:Int):=u8_and' a 127
 have eT:(arrB l).setIfInBounds 31 (.int .u8 ((a &&& 127).toNat:Int))=arrB (topC l):=by rw [za3,← ha];rfl
 have h1:(w.alloc (.cells (arrB (topC l)) 22)).heap[w.heap.size]?=some (.cells (arrB (topC l)) 22 (0,0)):=heap_alloc_new _ _
 have hb:Below w.heap.size w (w.alloc (.cells (arrB (topC l)) 22)):=(Below.refl w.heap.size w).alloc (Nat.le_refl _) _
 have nT:(arrB (topC l)).size=32:=by rw [zar,htl]
 have iT:(Tryz.prog.info? 22).map (·.size)=some (arrB (topC l)).size:=by rw [nT];kernel_rfl
 obtain ⟨L0,hL0⟩:∃ L,arrB l=L:=⟨_,rfl⟩
 rw [hL0] at cx eT ⊢
 obtain ⟨T,hT⟩:∃ L,arrB (topC l)=L:=⟨_,rfl⟩
 rw [hT] at HFR heq h1 hb iT eT
 have fx:=za4 h0 31
 rw [hL0] at fx
 have hm32:Tryz.prog.eqGuardType Tryz.prog.depth 22=false:=by kernel_rfl
 obtain ⟨m,hm⟩:∃ m:Int,((a &&& 127).toNat:Int)=m:=⟨_,rfl⟩
 rw [hm] at f1 eT
 obtain ⟨W1,hW1⟩:∃ W1,w.alloc (.cells T 22)=W1:=⟨_,rfl⟩
 rw [hW1] at h1 hb
 have hlt:w.heap.size<W1.heap.size:=(Array.getElem?_eq_some_iff.1 h1).1
 have HROW:Hid (∀ W,Below W1.heap.size W1 W→W.heap[w.heap.size]?=some (.cells T 22 (0,0))):=yh fun W h=>by rw [h.block _ hlt];exact h1
 have HB:=yh hb
 have HW1:=yh hW1
 have HET:=yh eT
 clear htl hl hres hQ hB2 h0 ha eT h1 hb nT hL0 hT hm hlt hW1
 go_enter Tryz.func96,Tryz.ntmps96
 go_upto_region 2 with fail
 rw [HET.out,HW1.out]
 clear HW1 HET cx f1 fx
 refine wp_region_noPanic ?_
 refine wp_region_held_drew (S:=fun W=>Below W1.heap.size W1 W) (by kernel_rfl) (by exact (Below.refl _ _).drew) (fun hS=>?_)
 refine' yk 0  hS ?_ (hy:=fun W hSW=>zac rfl rfl (HROW.out W hSW) Tryz.underlying22 rfl iT)
 refine' yk 3  hS ?_ (hy:=fun W hSW=>zac rfl rfl (HROW.out W hSW) Tryz.underlying22 rfl iT)
 refine xk 1  (fun K hK=>?_)
 go_simp
 with_reducible refine (HFR.out _).mono ?_
 rintro e v1 ⟨rfl,hb1⟩
 have kb1:=zaa hS hb1
 clear hS hb1
 refine hK.out _ _ (by exact kb1) (fun hS=>?_)
 clear hK K
 refine xk 2  (fun K hK=>?_)
 go_simp
 with_reducible refine (HBY.out _).mono ?_
 rintro e v2 ⟨rfl,hb2⟩
 have kb2:=zaa kb1 hb2
 clear hS hb2
 refine hK.out _ _ (by exact kb2) (fun hS=>?_)
 clear hK K
 refine' yk 4  hS ?_ (hy:=fun W hSW=>za2 rfl rfl rfl hm32 (heq W))
 refine' yk 5  hS ?_
 refine wpAnyH_done (by kernel_rfl) ?_ _
 refine NoPanic.normal ?_
 clear hS
 (try simp only [Act.put])
 go_wp2_with fail
 go_ret
 exact ⟨rfl,zaa HB.out kb2⟩
end Go.Proofs.YtkgodlcnoenmbaaGreat
namespace Go.Proofs.YtkgodlcnoenmbaaGreat
open Go.RowKit
set_option linter.unusedVariables false
set_option maxRecDepth 100000
set_option maxHeartbeats 6400000
def RetV (W:World) (v:Value) (e:Ending) (w':World):Prop:=e=.returned v∧Below W.heap.size W w'
def bytT (x:Nat):Array Value:=arrB (leB 32 x)
def RetFe (R:Array Value→Nat→Prop) (W:World) (x:Nat) (e:Ending) (w':World):Prop:=∃ c,e=.returned (.agg c)∧R c x∧Below W.heap.size W w'
structure FeB (R:Array Value→Nat→Prop):Prop where
 lt:∀ {c x},R c x→x<PP
 info:∀ {c x},R c x→(Tryz.prog.info? 63).map (·.size)=some c.size
 one:∀ {c x},R c x→c.all (·.oneCell')=true
 zero:∃ Z,(∀ u,(zeroValue 63).run Tryz.prog u=.ok (.agg Z) u)∧R Z 0
abbrev FeFromC (R:Array Value→Nat→Prop):Prop:=∀ (l:List UInt8),l.length=32→∀ W:World,Calls Tryz.prog 77 #[.agg (arrB l)] W (RetFe R W (feN l))
abbrev FeSmallC (R:Array Value→Nat→Prop):Prop:=∀ (n:Nat),n<18446744073709551616→∀ W:World,Calls Tryz.prog 78 #[.int .u64 (n:Int)] W (RetFe R W n)
abbrev FeCanC (R:Array Value→Nat→Prop):Prop:=∀ (l:List UInt8),l.length=32→∀ W:World,Calls Tryz.prog 76 #[.agg (arrB l)] W (RetV W (.bool (canN l)))
abbrev FeBytesC (R:Array Value→Nat→Prop):Prop:=∀ {c x},R c x→∀ W:World,Calls Tryz.prog 94 #[.agg c] W (RetV W (.agg (bytT x)))
abbrev FeAddC (R:Array Value→Nat→Prop):Prop:=∀ {c x d y},R c x→R d y→∀ W:World,Calls Tryz.prog 82 #[.agg c,.agg d] W (RetFe R W ((x+y) % PP))
abbrev FeSubC (R:Array Value→Nat→Prop):Prop:=∀ {c x d y},R c x→R d y→∀ W:World,Calls Tryz.prog 81 #[.agg c,.agg d] W (RetFe R W ((x+(PP-y)) % PP))
abbrev FeMulC (R:Array Value→Nat→Prop):Prop:=∀ {c x d y},R c x→R d y→∀ W:World,Calls Tryz.prog 83 #[.agg c,.agg d] W (RetFe R W ((x*y) % PP))
abbrev FeSquareC (R:Array Value→Nat→Prop):Prop:=∀ {c x},R c x→∀ W:World,Calls Tryz.prog 79 #[.agg c] W (RetFe R W ((x*x) % PP))
abbrev FeNegC (R:Array Value→Nat→Prop):Prop:=∀ {c x},R c x→∀ W:World,Calls Tryz.prog 86 #[.agg c] W (RetFe R W ((PP-x) % PP))
abbrev FeEqualC (R:Array Value→Nat→Prop):Prop:=∀ {c x d y},R c x→R d y→∀ W:World,Calls Tryz.prog 124 #[.agg c,.agg d] W (RetV W (.bool (decide (x=y))))
abbrev FeIsZeroC (R:Array Value→Nat→Prop):Prop:=∀ {c x},R c x→∀ W:World,Calls Tryz.prog 85 #[.agg c] W (RetV W (.bool (decide (x=0))))
abbrev FeOddC (R:Array Value→Nat→Prop):Prop:=∀ {c x},R c x→∀ W:World,Calls Tryz.prog 95 #[.agg c] W (RetV W (.bool (decide (x % 2=1))))
structure FeC (R:Array Value→Nat→Prop):Prop where
 base:FeB R
 from_:FeFromC R
 small:FeSmallC R
 can:FeCanC R
 bytes:FeBytesC R
 add:FeAddC R
 sub:FeSubC R
 mul:FeMulC R
 square:FeSquareC R
 neg:FeNegC R
 equal:FeEqualC R
 isZero:FeIsZeroC R
 odd:FeOddC R
def refT (x:Nat):Array Value:=tabI (dgN 16 (x:Int))
theorem zad (x:Nat):(Tryz.prog.info? 56).map (·.size)=some (refT x).size:=za9 (zaD _ _)
theorem zav (x:Nat):(refT x).all (·.oneCell')=true:=zaZ _
theorem za6 (u:World):(zeroValue 56).run Tryz.prog u=.ok (.agg (refT 0)) u:=by
 have h:=zero_fe u
 rwa [show tabI (List.replicate 16 0)=refT 0 by unfold refT;congr 1] at h
theorem zaO (x:Nat):(Tryz.prog.info? 22).map (·.size)=some (bytT x).size:=by unfold bytT;rw [zar,zaq];kernel_rfl
theorem zbJ (x:Nat):(bytT x).all (·.oneCell')=true:=zax _
theorem zah {l:List UInt8} (h:l.length=32):(Tryz.prog.info? 22).map (·.size)=some (arrB l).size:=by rw [zar,h];kernel_rfl
theorem arr32_zero (u:World):(zeroValue 22).run Tryz.prog u=.ok (.agg (arrB (List.replicate 32 0))) u:=zbp 22 (arrB (List.replicate 32 0)) 32 (by kernel_rfl) u
def zai:Array Value:=arrB (List.replicate 32 0)
theorem zao (u:World):(zeroValue 22).run Tryz.prog u=.ok (.agg zai) u:=arr32_zero u
theorem zaG {l:List UInt8} (h:l.length=32):zai.size=(arrB l).size:=by unfold zai;rw [zar,zar,h];simp
theorem zbc (x:Nat):zai.size=(bytT x).size:=by unfold zai bytT;rw [zar,zar,zaq];simp
theorem zero32_info:(Tryz.prog.info? 22).map (·.size)=some zai.size:=zah (by simp)
theorem zero32_one:zai.all (·.oneCell')=true:=zax _
theorem zat (x y:Nat):(refT x).size=(refT y).size:=by unfold refT;rw [zaB,zaB,zaD,zaD]
theorem FeB.size {R:Array Value→Nat→Prop} (C:FeB R) {c d:Array Value} {x y:Nat} (h:R c x) (k:R d y):c.size=d.size:=by
 have a:=C.info h
 rw [C.info k] at a
 injection a with a
 exact a.symm
theorem arr_at {l:List UInt8} (h:l.length=32) (i:Nat) (hi:i<32) (u:World):(Instr.index 22 (.agg (arrB l)) (.int .i64 (i:Int))).run Tryz.prog u=.ok (.int .u8 ((l.getD i 0).toNat:Int)) u:=by
 have hu:Tryz.prog.underlying 22=some (.array 32 5):=by kernel_rfl
 have h1:(0:Int)≤(i:Int)∧(i:Int)<((32:Nat):Int):=⟨by omega,by omega⟩
 have hs:(sizeOf 5).run Tryz.prog u=.ok 1 u:=by kernel_rfl
 have hv:=zaE l i (by omega)
 simp [Instr.index,run_underlying hu,asIntOf,h1,hi,go_sem,hs,hv]
theorem bytT_get (x i:Nat) (h:i<32):(bytT x)[i]?=some (.int .u8 (((leB 32 x).getD i 0).toNat:Int)):=zaE _ _ (by rw [zaq];exact h)
def fillB (k:Nat):List UInt8:=List.replicate k 255++List.replicate (32-k) 0
theorem fillB_len {k:Nat} (h:k≤32):(fillB k).length=32:=by simp [fillB];omega
theorem fillB_set {k:Nat} (h:k<32):(fillB k).set k 255=fillB (k+1):=by
 unfold fillB
 rw [List.set_append,if_neg (by simp),List.length_replicate,Nat.sub_self,show 32-k=(32-(k+1))+1 by omega,List.replicate_succ,List.set_cons_zero,List.replicate_succ']
 simp
theorem fillB_end:fillB 32=List.replicate 32 255:=by simp [fillB]
theorem pP_PP:pP=((PP:Nat):Int):=rfl
theorem ltI {x:Nat} (h:x<PP):(x:Int)<pP:=by unfold pP;unfold PP at h;omega
theorem rfromN (l:List UInt8) (hl:l.length=32) (W:World):Calls Tryz.prog 97 #[.agg (arrB l)] W (RetV W (.agg (refT (feN l)))):=rfrom9_any l hl W
theorem rsmallN (n:Nat) (hn:n<18446744073709551616) (W:World):Calls Tryz.prog 72 #[.int .u64 (n:Int)] W (RetV W (.agg (refT n))):=rsmall9_any n hn W
theorem rbytesN (x:Nat) (W:World):Calls Tryz.prog 64 #[.agg (refT x)] W (RetV W (.agg (bytT x))):=rbytes9_any x W
theorem rcanN (l:List UInt8) (hl:l.length=32) (W:World):Calls Tryz.prog 96 #[.agg (arrB l)] W (RetV W (.bool (canN l))):=rcan9_any l hl W
theorem raddN {x y:Nat} (hx:x<PP) (hy:y<PP) (W:World):Calls Tryz.prog 67 #[.agg (refT x),.agg (refT y)] W (RetV W (.agg (refT ((x+y) % PP)))):=by
 have h:=radd9_any x y (by omega) (ltI hx) (by omega) (ltI hy) W
 rwa [show ((x:Int)+(y:Int)) % pP=(((x+y) % PP:Nat):Int) by unfold pP PP;omega] at h
theorem rsubN {x y:Nat} (hx:x<PP) (hy:y<PP) (W:World):Calls Tryz.prog 118 #[.agg (refT x),.agg (refT y)] W (RetV W (.agg (refT ((x+(PP-y)) % PP)))):=by
 have h:=rsub9_any x y (by omega) (ltI hx) (by omega) (ltI hy) W
 rwa [show ((x:Int)-(y:Int)) % pP=(((x+(PP-y)) % PP:Nat):Int) by unfold pP;unfold PP at *;omega] at h
theorem rnegN {x:Nat} (hx:x<PP) (W:World):Calls Tryz.prog 98 #[.agg (refT x)] W (RetV W (.agg (refT ((PP-x) % PP)))):=by
 have h:=rneg9_any x (by omega) (ltI hx) W
 rwa [show -(x:Int) % pP=(((PP-x) % PP:Nat):Int) by unfold pP;unfold PP at *;omega] at h
theorem rmulN {x y:Nat} (hx:x<PP) (hy:y<PP) (W:World):Calls Tryz.prog 65 #[.agg (refT x),.agg (refT y)] W (RetV W (.agg (refT ((x*y) % PP)))):=by
 have h:=rmul9_any x y (by omega) (ltI hx) (by omega) (ltI hy) W
 rwa [show ((x:Int)*(y:Int)) % pP=(((x*y) % PP:Nat):Int) by rw [pP_PP,Int.natCast_emod,Int.natCast_mul]] at h
theorem roddN (x:Nat) (W:World):Calls Tryz.prog 66 #[.agg (refT x)] W (RetV W (.bool (decide (x % 2=1)))):=by
 have h:=rodd9_any x W
 rwa [show ((x:Int) % 2 == 1)=decide (x % 2=1) by
  by_cases hq:x % 2=1
  ·rw [decide_eq_true hq];simp;omega
  ·rw [decide_eq_false hq];simp;omega] at h
theorem dg_inj {x y:Nat} (hx:x<PP) (hy:y<PP) (h:dgN 16 (x:Int)=dgN 16 (y:Int)):x=y:=by
 have a:=dg_val (x:=(x:Int)) (by omega) (ltI hx)
 have b:=dg_val (x:=(y:Int)) (by omega) (ltI hy)
 rw [h,b] at a
 omega
theorem eqRef {x y:Nat} (hx:x<PP) (hy:y<PP) (u:World):(binOp .eql 56 (.agg (refT x)) (.agg (refT y))).run Tryz.prog u=.ok (.bool (decide (x=y))) u:=by
 have h:=eqI_run (P:=Tryz.prog) 56 2 16 (dgN 16 (x:Int)) (dgN 16 (y:Int)) (zaD _ _) (zaD _ _) Tryz.underlying56 Tryz.underlying2 (fun w=>by kernel_rfl) (fun w=>by kernel_rfl) u
 have e:decide (dgN 16 (x:Int)=dgN 16 (y:Int))=decide (x=y):=by
  by_cases hq:x=y
  ·subst hq;simp
  ·rw [decide_eq_false hq]
   exact decide_eq_false (fun h=>hq (dg_inj hx hy h))
 rw [e] at h
 exact h
theorem eqRefT {x y:Nat} (hx:x<PP) (hy:y<PP) (h:x=y) (u:World):(binOp .eql 56 (.agg (refT x)) (.agg (refT y))).run Tryz.prog u=.ok (.bool true) u:=by
 have k:=eqRef hx hy u
 rwa [decide_eq_true h] at k
theorem eqRefF {x y:Nat} (hx:x<PP) (hy:y<PP) (h:¬ x=y) (u:World):(binOp .eql 56 (.agg (refT x)) (.agg (refT y))).run Tryz.prog u=.ok (.bool false) u:=by
 have k:=eqRef hx hy u
 rwa [decide_eq_false h] at k
theorem neRefT {x y:Nat} (hx:x<PP) (hy:y<PP) (h:x=y) (u:World):(binOp .neq 56 (.agg (refT x)) (.agg (refT y))).run Tryz.prog u=.ok (.bool false) u:=neqB_run _ _ _ true u (eqRefT hx hy h u)
theorem neRefF {x y:Nat} (hx:x<PP) (hy:y<PP) (h:¬ x=y) (u:World):(binOp .neq 56 (.agg (refT x)) (.agg (refT y))).run Tryz.prog u=.ok (.bool true) u:=neqB_run _ _ _ false u (eqRefF hx hy h u)
theorem eqByt {l m:List UInt8} (hl:l.length=32) (hm:m.length=32) (u:World):(binOp .eql 22 (.agg (arrB l)) (.agg (arrB m))).run Tryz.prog u=.ok (.bool (decide (l=m))) u :=
 eqB_run (P:=Tryz.prog) 22 5 32 l m hl hm Tryz.underlying22 Tryz.underlying5 (fun w=>by kernel_rfl) (fun w=>by kernel_rfl) u
theorem guardB:Tryz.prog.eqGuardType Tryz.prog.depth 22=false:=by kernel_rfl
theorem guardR:Tryz.prog.eqGuardType Tryz.prog.depth 56=false:=by kernel_rfl
def refP (X Y Z T:Nat):Array Value:=quad (refT X) (refT Y) (refT Z) (refT T)
theorem zaA (x:Nat):(refT x).size=16:=by unfold refT;rw [zaB,zaD]
theorem refP_size (X Y Z T:Nat):(refP X Y Z T).size=64:=by unfold refP;rw [quad_size,zaA,zaA,zaA,zaA]
theorem zaW (X Y Z T X' Y' Z' T':Nat):(refP X Y Z T).size=(refP X' Y' Z' T').size:=by rw [refP_size,refP_size]
theorem zaC (X Y Z T:Nat):(Tryz.prog.info? 58).map (·.size)=some (refP X Y Z T).size:=by rw [refP_size];kernel_rfl
theorem zbj (X Y Z T:Nat):(refP X Y Z T).all (·.oneCell')=true:=by unfold refP;rw [quad_one,zav,zav,zav,zav];rfl
theorem refP_0 (X Y Z T j:Nat) (h:j<(refT X).size):(refP X Y Z T)[0+j]?=(refT X)[j]?:=quad_0 j h
theorem refP_1 (X Y Z T j:Nat) (h:j<(refT Y).size):(refP X Y Z T)[16+j]?=(refT Y)[j]?:=quad_1 (zaA X) j h
theorem refP_2 (X Y Z T j:Nat) (h:j<(refT Z).size):(refP X Y Z T)[32+j]?=(refT Z)[j]?:=quad_2 (m:=32) (by rw [zaA,zaA]) j h
theorem refP_3 (X Y Z T j:Nat) (h:j<(refT T).size):(refP X Y Z T)[48+j]?=(refT T)[j]?:=quad_3 (m:=48) (by rw [zaA,zaA,zaA]) j h
theorem zbd (u:World):(zeroValue 58).run Tryz.prog u=.ok (.agg (refP 0 0 0 0)) u:=by kernel_rfl
def placeP:Array (Nat × Nat):=#[(0,16),(16,16),(32,16),(48,16)]
theorem refP_under:∃ f:Array Field,Tryz.prog.underlying 58=some (.struct f)∧∀ w:World,(f.mapM fun x=>(do pure (x.offset,← sizeOf x.type):Sem (Nat × Nat))).run Tryz.prog w=.ok placeP w :=
 ⟨_,Tryz.underlying58,fun w=>by kernel_rfl⟩
theorem run_build_of {parts:Array (Nat × Value)} {cells:Array Value} (w:World) (h:Instr.fill (fun i=>placeP[i]?) (refP 0 0 0 0) parts.toList=some cells) :
  (Instr.build 58 parts).run Tryz.prog w=.ok (.agg cells) w:=by
 obtain ⟨f,hu,hp⟩:=refP_under
 unfold Instr.build
 rw [Sem.run_bind,zbd w,Result.andThen_ok]
 simp only [Sem.run_bind,run_underlying hu w,Result.andThen_ok]
 rw [hp w]
 simp only [Result.andThen_ok,Value.cells]
 have h':Instr.fill (fun x=>placeP[x]?) (refP 0 0 0 0) parts.toList=some cells:=h
 rw [h']
 rfl
theorem run_build4 {ρ:Operand→Value} {o:Oper} {w:World} {x0 x1 x2 x3:Operand} {a b c d:Nat} (ho:o.op=.build 58 #[(0,x0),(1,x1),(2,x2),(3,x3)])
  (h0:ρ x0=.agg (refT a)) (h1:ρ x1=.agg (refT b)) (h2:ρ x2=.agg (refT c)) (h3:ρ x3=.agg (refT d)) :
  (execOp ρ o).run Tryz.prog w=.ok (.value (.agg (refP a b c d))) w:=by
 have h:=run_build_of (parts:=#[(0,.agg (refT a)),(1,.agg (refT b)),(2,.agg (refT c)),(3,.agg (refT d))]) (cells:=refP a b c d) w (by
  show Instr.fill _ (quad _ _ _ _) ((0,.agg (refT a)) :: (1,.agg (refT b)) :: (2,.agg (refT c)) :: (3,.agg (refT d)) :: [])=_
  rw [fill_0 (by rw [zaA,zaA]) (by rw [zaA];rfl),fill_1 (n:=16) (by rw [zaA]) (by rw [zaA,zaA]) (by rw [zaA];rfl),fill_2 (n:=32) (by rw [zaA,zaA]) (by rw [zaA,zaA]) (by rw [zaA];rfl),fill_3 (n:=48) (by rw [zaA,zaA,zaA]) (by rw [zaA,zaA]) (by rw [zaA];rfl)]
  rfl)
 unfold execOp
 simp only [ho,List.map_toArray,List.map_cons,List.map_nil,h0,h1,h2,h3,Sem.run_bind,h,Result.andThen_ok,Sem.run_pure]
theorem run_build2 {ρ:Operand→Value} {o:Oper} {w:World} {x1 x2:Operand} {b c:Nat} (ho:o.op=.build 58 #[(1,x1),(2,x2)])
  (h1:ρ x1=.agg (refT b)) (h2:ρ x2=.agg (refT c)) :
  (execOp ρ o).run Tryz.prog w=.ok (.value (.agg (refP 0 b c 0))) w:=by
 have h:=run_build_of (parts:=#[(1,.agg (refT b)),(2,.agg (refT c))]) (cells:=refP 0 b c 0) w (by
  show Instr.fill _ (quad _ _ _ _) ((1,.agg (refT b)) :: (2,.agg (refT c)) :: [])=_
  rw [fill_1 (n:=16) (by rw [zaA]) (by rw [zaA,zaA]) (by rw [zaA];rfl),fill_2 (n:=32) (by rw [zaA,zaA]) (by rw [zaA,zaA]) (by rw [zaA];rfl)]
  rfl)
 unfold execOp
 simp only [ho,List.map_toArray,List.map_cons,List.map_nil,h1,h2,Sem.run_bind,h,Result.andThen_ok,Sem.run_pure]
def RQ (c:Array Value) (p:PtD):Prop:=∃ X Y Z T,c=refP X Y Z T∧Co X Y Z T p
def RetPt (R:Array Value→PtD→Prop) (W:World) (p:PtD) (e:Ending) (w':World):Prop:=∃ c,e=.returned (.agg c)∧R c p∧Below W.heap.size W w'
def RetPtB (R:Array Value→PtD→Prop) (W:World) (p:PtD) (b:Bool) (e:Ending) (w':World):Prop:=∃ c,e=.returned (.tuple #[.agg c,.bool b])∧R c p∧Below W.heap.size W w'
end Go.Proofs.YtkgodlcnoenmbaaGreat
namespace Go.Proofs.YtkgodlcnoenmbaaGreat
open Go.RowKit
set_option linter.unusedVariables false
set_option maxRecDepth 100000
set_option maxHeartbeats 800000 in
theorem rbit_any (l:List UInt8) (hl:l.length=32) (i:Nat) (hi:i<256) (w:World) :
  Calls Tryz.prog 71 #[.agg (arrB l),.int .i64 (i:Int)] w (RetV w (.int .i64 ((leN l/2^i % 2:Nat):Int))):=by
 obtain ⟨j,hj⟩:∃ j,i/8=j:=⟨_,rfl⟩
 obtain ⟨r,hr⟩:∃ r,i % 8=r:=⟨_,rfl⟩
 have hb:=leN_bit l i
 rw [hj,hr] at hb
 obtain ⟨a,ha⟩:∃ a,(l.getD j 0).toNat=a:=⟨_,rfl⟩
 have hal:a<256:=by rw [← ha];exact (l.getD j 0).toNat_lt
 obtain ⟨q,hq⟩:∃ q,a/2^r=q:=⟨_,rfl⟩
 have hql:q<256:=by rw [← hq];exact Nat.lt_of_le_of_lt (Nat.div_le_self _ _) hal
 rw [ha,hq] at hb
 rw [← hb]
 obtain ⟨s,hs⟩:∃ s:Int,((q % 2:Nat):Int)=s:=⟨_,rfl⟩
 have h0:(w.alloc (.cells (arrB l) 22)).heap[w.heap.size]?=some (.cells (arrB l) 22 (0,0)):=heap_alloc_new _ _
 have cx:(w.alloc (.cells (arrB l) 22)).cell? ⟨w.heap.size,j,none⟩=some (.int .u8 (a:Int)):=by
  rw [cell_of_row _ _ _ _ _ _ h0,zaE _ _ (by omega),ha]
 have HB:=yh (show Below w.heap.size w (w.alloc (.cells (arrB l) 22)) from (Below.refl w.heap.size w).alloc (Nat.le_refl _) _)
 have d0:decide ((i:Int)<0)=false:=decide_eq_false (by omega)
 have d1:decide ((255:Int)<(i:Int))=false:=decide_eq_false (by omega)
 have t1:(i:Int).tdiv 8=(j:Int):=by rw [Int.tdiv_eq_ediv_of_nonneg (by omega)];omega
 have t1':(i:Int)/8=(j:Int):=by omega
 have t2:(i:Int).tmod 8=(r:Int):=by rw [Int.tmod_eq_emod_of_nonneg (by omega)];omega
 have t2':(i:Int) % 8=(r:Int):=by omega
 have t3:IntKind.u64.wrap (r:Int)=(r:Int):=by rw [IntKind.wrap_u64];omega
 have t4:(a:Int)/2^r=(q:Int):=by rw [← hq];simp
 have t5:IntKind.i64.wrap (q:Int)=(q:Int):=by rw [IntKind.wrap_i64];omega
 have t6:bits .and .i64 (q:Int) 1=s:=by rw [i64_and1,← hs];omega
 have b1:0≤(j:Int):=by omega
 have b2:(j:Int)<32:=by omega
 have hr8:r<8:=by omega
 rw [hs]
 clear hb ha hq hs h0 hj hr hal
 generalize arrB l=LL at *
 go_enter Tryz.func71,Tryz.ntmps71
 go_wp2_with fail
 go_ret
 exact ⟨rfl,HB.out⟩
set_option maxHeartbeats 3200000 in
theorem rpowN {x:Nat} (hx:x<PP) (l:List UInt8) (hl:l.length=32) (w:World) :
  Calls Tryz.prog 115 #[.agg (refT x),.agg (arrB l)] w (RetV w (.agg (refT (pwN x (leN l))))):=by
 have hzR:=za6
 have HX:=yh hx
 have HL:=yh hl
 have HS1:Hid (∀ W:World,Calls Tryz.prog 72 #[.int .u64 1] W (RetV W (.agg (refT 1)))):=yh fun W=>rsmallN 1 (by decide) W
 obtain ⟨E,hE⟩:∃ E,leN l=E:=⟨_,rfl⟩
 have hE0:E/2^(256-0)=0:=by
  have:=leN_lt l
  rw [hl,hE] at this
  exact Nat.div_eq_of_lt (by rw [show (2:Nat)^(256-0)=256^32 by decide];exact this)
 have HP0:Hid (pwN x (E/2^(256-0))=1):=yh (by rw [hE0];exact pwN_zero x)
 have HBI:Hid (∀ (i:Nat),i<256→∀ W:World,Calls Tryz.prog 71 #[.agg (arrB l),.int .i64 (i:Int)] W (RetV W (.int .i64 ((E/2^i % 2:Nat):Int)))):=yh fun i hi W=>by rw [← hE];exact rbit_any l hl i hi W
 have iL:=zah hl
 rw [hE]
 have HR0:=yh ((((RowsW.nil w).box (refT x) 56).box (arrB l) 22).box (refT 0) 56)
 have HB0:=yh (zaf (zaf (zaf (Below.refl w.heap.size w) (refT x) 56) (arrB l) 22) (refT 0) 56)
 rw [World.size_alloc,World.size_alloc] at HR0
 clear hE hE0 hl hx
 generalize arrB l=LL at *
 go_enter Tryz.func115,Tryz.ntmps115
 go_wp2_with fail
 obtain ⟨W0,hW0⟩:∃ W,((w.alloc (.cells (refT x) 56)).alloc (.cells LL 22)).alloc (.cells (refT 0) 56)=W:=⟨_,rfl⟩
 obtain ⟨g,hg⟩:∃ g,w.heap.size=g:=⟨_,rfl⟩
 rw [hW0] at HR0 HB0
 rw [hg] at HR0
 rw [hW0,hg]
 have HG:=yh hg
 clear hW0 hg
 with_reducible refine (HS1.out _).mono ?_
 rintro e v1 ⟨rfl,hb1⟩
 have hr1:=HR0.out.below hb1
 have HNE:=yh hr1.ne
 have h0:(v1.alloc (.cells (refT 0) 56)).heap[v1.heap.size]?=some (.cells (refT 0) 56 (0,0)):=heap_alloc_new _ _
 have HR1:=yh (hr1.new (refT 0) (refT 1) 56)
 have HB1:=yh (zan (zaa HB0.out hb1) (refT 0) (refT 1) 56)
 have HGE:Hid (w.heap.size≤v1.heap.size):=yh (zaa HB0.out hb1).size
 clear hb1 hr1 HR0 HB0 HS1
 go_wp2_with (refine yj (refT 1) h0 (zad _) (zat _ _) (zav _) ?_)
 obtain ⟨W2,hW2⟩:∃ W,(v1.alloc (.cells (refT 0) 56)).setRow v1.heap.size (refT 1)=W:=⟨_,rfl⟩
 obtain ⟨gz,hgz⟩:∃ g,v1.heap.size=g:=⟨_,rfl⟩
 rw [hW2,hgz] at HR1
 rw [hW2] at HB1
 rw [hgz] at HNE HGE
 rw [hgz] at hW2
 rw [hgz,hW2]
 clear hW2 hgz h0
 go_loopw [6] (fun i wr=>∃ k:Nat,k≤256∧i=.int .i64 (255-(k:Int))∧Hid (RowsW wr [(gz,refT (pwN x (E/2^(256-k))),56),(g+1+1,refT 0,56),(g+1,LL,22),(g,refT x,56)])∧Hid (Below w.heap.size w wr)) (fun i _=>(intOf i+1).toNat)
 case atStart=>exact ⟨0,by omega,rfl,by rw [HP0.out];exact HR1,HB1⟩
 case round =>
  clear HR1 HB1
  obtain ⟨k,hk,rfl,HR1,HB1⟩:=hrel
  by_cases hlt:k<256
  ·obtain ⟨i,hi⟩:∃ i,255-k=i:=⟨_,rfl⟩
   have e1:255-(k:Int)=(i:Int):=by omega
   have e2:(i:Int)-1=255-((k+1:Nat):Int):=by omega
   have hi255:i≤255:=by omega
   have hst:=pow_step x E k hlt
   rw [hi] at hst
   obtain ⟨y,hy⟩:∃ y,pwN x (E/2^(256-k))=y:=⟨_,rfl⟩
   have hyl:y<PP:=by rw [← hy];exact pwN_lt _ _
   rw [hy] at hst HR1
   have hm:=fun W:World=>rmulN hyl hyl W
   obtain ⟨y2,hy2⟩:∃ n,y*y % PP=n:=⟨_,rfl⟩
   have hy2l:y2<PP:=by rw [← hy2];exact zap _
   rw [hy2] at hm hst
   have HM:=yh hm
   have HBT:=yh (HBI.out i (by omega))
   obtain ⟨t,ht⟩:∃ t,E/2^i % 2=t:=⟨_,rfl⟩
   have htl:t<2:=by rw [← ht];exact Nat.mod_lt _ (by omega)
   rw [ht] at HBT hst
   have HE2:=yh e2
   have hp:¬ ((i:Int)<0):=by omega
   rw [e1]
   have l1:=HR1.out.head
   clear hm hy hi e1 e2 ht
   go_wp2_with (refine yi l1 Tryz.underlying56 (zad _) ?_)
   with_reducible refine (HM.out _).mono ?_
   rintro e v3 ⟨rfl,hb3⟩
   have r3:=HR1.out.below hb3
   have l3:=r3.head
   have r4:=r3.put (fun r hr=>by simp only [List.mem_cons,List.not_mem_nil,or_false] at hr;exact HNE.out r (by simpa using hr)) (refT y2)
   have b4:=zab (cs:=refT y2) (zaa HB1.out hb3) HGE.out
   have l4:=r4.tail.tail.head
   have HR4:=yh r4
   have HB4:=yh b4
   clear hb3 r3 r4 b4 l1 HM HR1 HB1
   go_wp2_with (first
    | (refine yj (refT y2) l3 (zad _) (zat _ _) (zav _) ?_)
    | (refine yi l4 Tryz.underlying22 iL ?_))
   with_reducible refine (HBT.out _).mono ?_
   rintro e v5 ⟨rfl,hb5⟩
   have r5:=HR4.out.below hb5
   have HR5:=yh r5
   have HB5:=yh (zaa HB4.out hb5)
   clear hb5 l3 l4 HR4 HB4
   by_cases hbit:t=1
   ·subst hbit
    rw [if_pos rfl] at hst
    have hm2:=fun W:World=>rmulN hy2l HX.out W
    rw [hst] at hm2
    have HM2:=yh hm2
    have l5:=r5.head
    have l6:=r5.tail.tail.tail.head
    clear r5 hm2 hst
    go_wp2_with (first
     | (refine yi l5 Tryz.underlying56 (zad _) ?_)
     | (refine yi l6 Tryz.underlying56 (zad _) ?_))
    with_reducible refine (HM2.out _).mono ?_
    rintro e v7 ⟨rfl,hb7⟩
    have r7:=HR5.out.below hb7
    have l7:=r7.head
    obtain ⟨y3,hy3⟩:∃ n,pwN x (E/2^(256-(k+1)))=n:=⟨_,rfl⟩
    rw [hy3]
    have HR8:=yh (r7.put (fun r hr=>by simp only [List.mem_cons,List.not_mem_nil,or_false] at hr;exact HNE.out r (by simpa using hr)) (refT y3))
    have HB8:=yh (zab (cs:=refT y3) (zaa HB5.out hb7) HGE.out)
    have HY3:=yh hy3
    clear hb7 r7 l5 l6 HM2 HR5 HB5 hy3
    go_wp2_with (refine yj (refT y3) l7 (zad _) (zat _ _) (zav _) ?_)
    go_roundw
    case rel=>exact ⟨k+1,by omega,by rw [← HE2.out],by rw [HY3.out];exact HR8,HB8⟩
    case measure=>simp [intOf] <;> omega
   ·have ht0:t=0:=by omega
    subst ht0
    rw [if_neg (by omega)] at hst
    have HST:=yh hst
    clear r5 hst hbit
    go_wp2_with fail
    go_roundw
    case rel=>exact ⟨k+1,by omega,by rw [← HE2.out],by rw [← HST.out];exact HR5,HB5⟩
    case measure=>simp [intOf] <;> omega
  ·obtain rfl:k=256:=by omega
   have HPE:Hid (pwN x (E/2^(256-256))=pwN x E):=yh (by rw [Nat.sub_self,Nat.pow_zero,Nat.div_one])
   rw [HPE.out] at HR1
   obtain ⟨y,hy⟩:∃ y,pwN x E=y:=⟨_,rfl⟩
   rw [hy] at HR1
   have HY:=yh hy
   have l1:=HR1.out.head
   have l2:=HR1.out.tail.head
   have HB:=yh (show Below w.heap.size w (wr.setRow (g+1+1) (refT y)) from zab HB1.out (by rw [HG.out];omega))
   have hp:¬ (0:Int)≤255-((256:Nat):Int):=by omega
   clear hy HR1 HB1 HPE
   go_wp2_with (first
    | (refine yi l1 Tryz.underlying56 (zad _) ?_)
    | (refine yj (refT y) l2 (zad _) (zat _ _) (zav _) ?_))
   (try simp only [Exit.inBlock,Exit.then])
   refine bodyPost_ret (results_cell_row rfl _ _ (g+1+1) _ (refT y) _ _ rfl (setRow_heap _ _ _ _ _ _ l2) Tryz.underlying56 rfl (zad _)) rfl ?_
   exact ⟨by rw [HY.out],HB.out⟩
end Go.Proofs.YtkgodlcnoenmbaaGreat
namespace Go.Proofs.YtkgodlcnoenmbaaGreat
open Go.RowKit
set_option linter.unusedVariables false
set_option maxRecDepth 100000
theorem or_half (a b:Nat) (ha:a<128) (hb:b<2):bits .or .u8 (a:Int) ((b*128:Nat):Int)=((a+b*128:Nat):Int):=by
 have h:=u8_or' (UInt8.ofNat a) (UInt8.ofNat (b*128))
 have e1:(UInt8.ofNat a).toNat=a:=by simp;omega
 have e2:(UInt8.ofNat (b*128)).toNat=b*128:=by simp;omega
 rw [UInt8.toNat_or,e1,e2] at h
 rw [h]
 have hb2:b=0∨b=1:=by omega
 rcases hb2 with rfl | rfl
 ·simp
 ·have:=Nat.two_pow_add_eq_or_of_lt (i:=7) (b:=a) (by omega) 1
  rw [Nat.or_comm,show 1*128=2^7*1 by decide,← this,Nat.add_comm]
theorem u8_and1 (v:Nat) (h:v<256):bits .and .u8 (v:Int) 1=((v % 2:Nat):Int):=by
 have e:=u8_and' (UInt8.ofNat v) 1
 have e1:(UInt8.ofNat v).toNat=v:=by simp;omega
 rw [UInt8.toNat_and,e1,show (1:UInt8).toNat=2^1-1 by decide,Nat.and_two_pow_sub_one_eq_mod] at e
 exact e
set_option maxHeartbeats 6400000 in
theorem ronesN (less halved:Nat) (h1:less≤237) (h2:halved≤100) (w:World) :
  Calls Tryz.prog 116 #[.int .i64 (less:Int),.int .i64 (halved:Int)] w (RetV w (.agg (arrB (leB 32 ((PP-less)/2^halved))))):=by
 have hz32:=zao
 have HLE:=yh h1
 have HHA:=yh h2
 have h0:((w.alloc (.cells zai 22)).alloc (.cells zai 22)).heap[w.heap.size+1]?=some (.cells zai 22 (0,0)):=heap_alloc2_new _ _ _
 have HR1:=yh (((RowsW.nil w).box zai 22).new zai (arrB (fillB 0)) 22)
 have HB1:=yh (zan (zaf (Below.refl w.heap.size w) zai 22) zai (arrB (fillB 0)) 22)
 have hq:arrB (fillB 0)=zai:=rfl
 rw [World.size_alloc,hq] at HR1 HB1
 clear h1 h2
 go_enter Tryz.func116,Tryz.ntmps116
 go_wp2_with (refine yj zai h0 zero32_info rfl zero32_one ?_)
 obtain ⟨W1,hW1⟩:∃ W,((w.alloc (.cells zai 22)).alloc (.cells zai 22)).setRow (w.heap.size+1) zai=W:=⟨_,rfl⟩
 rw [hW1] at HR1 HB1
 obtain ⟨g,hg⟩:∃ g,w.heap.size=g:=⟨_,rfl⟩
 rw [hg] at HR1 hW1
 rw [hg,hW1]
 rw [← hq] at HR1
 have HG:=yh hg
 clear hW1 hg h0 hq
 go_loopw [6] (fun i wr=>∃ k:Nat,k≤32∧i=.int .i64 (k:Int)∧Hid (RowsW wr [(g+1,arrB (fillB k),22),(g,zai,22)])∧Hid (Below w.heap.size w wr)) (fun i _=>32-(intOf i).toNat)
 case atStart=>exact ⟨0,by omega,rfl,HR1,HB1⟩
 case round =>
  clear HR1 HB1
  obtain ⟨k,hk,rfl,HR1,HB1⟩:=hrel
  by_cases hlt:k<32
  ·have cx:wr.cell? ⟨g+1,k,none⟩=some (.int .u8 (((fillB k).getD k 0).toNat:Int)):=by rw [cell_of_row _ _ _ _ _ _ HR1.out.head,zaE _ _ (by rw [fillB_len hk];exact hlt)]
   have fx:=za4 HR1.out.head k
   have hs:=HR1.out.set (by simp) k (.int .u8 255)
   rw [show (255:Int)=((255:UInt8).toNat:Int) from rfl,za3,fillB_set hlt] at hs
   have HR2:Hid (RowsW (wr.setCell ⟨g+1,k,none⟩ (.int .u8 255)) [(g+1,arrB (fillB (k+1)),22),(g,zai,22)]):=yh hs
   have HB2:=yh (HB1.out.setCell (p:=⟨g+1,k,none⟩) (by show w.heap.size≤g+1;rw [HG.out];omega) (.int .u8 255))
   generalize ((fillB k).getD k 0)=old at *
   have b5:0≤(k:Int):=by omega
   have b6:(k:Int)<32:=by omega
   clear HR1 HB1 hs
   go_wp2_with fail
   go_roundw
   case rel=>exact ⟨k+1,by omega,by go_num,HR2,HB2⟩
   case measure=>simp [intOf] <;> omega
  ·obtain rfl:k=32:=by omega
   rw [fillB_end] at HR1
   obtain ⟨L,hL⟩:∃ L,List.replicate 32 (255:UInt8)=L:=⟨_,rfl⟩
   have hLl:L.length=32:=by rw [← hL];simp
   rw [hL] at HR1
   have hle:=HLE.out
   obtain ⟨d,hd⟩:∃ d,237-less=d:=⟨_,rfl⟩
   have c1:wr.cell? ⟨g+1,31,none⟩=some (.int .u8 ((L.getD 31 0).toNat:Int)):=by rw [cell_of_row _ _ _ _ _ _ HR1.out.head,zaE _ _ (by omega)]
   have f1:=za4 HR1.out.head 31
   have hs:=HR1.out.set (by simp) 31 (.int .u8 127)
   rw [show (127:Int)=((127:UInt8).toNat:Int) from rfl,za3] at hs
   rw [show ((127:UInt8).toNat:Int)=127 from rfl] at hs
   have c0:(wr.setCell ⟨g+1,31,none⟩ (.int .u8 127)).cell? ⟨g+1,0,none⟩=some (.int .u8 (((L.set 31 127).getD 0 0).toNat:Int)):=by rw [cell_of_row _ _ _ _ _ _ hs.head,zaE _ _ (by rw [List.length_set];omega)]
   have f0:=za4 hs.head 0
   have e2:((UInt8.ofNat d).toNat:Int)=(d:Int):=by simp;omega
   have hs2:=hs.set (by simp) 0 (.int .u8 ((UInt8.ofNat d).toNat:Int))
   rw [za3,e2,← hL,← hd,ones_low hle,hd] at hs2
   have hb2:=(HB1.out.setCell (p:=⟨g+1,31,none⟩) (by show w.heap.size≤g+1;rw [HG.out];omega) (.int .u8 127)).setCell (p:=⟨g+1,0,none⟩) (by show w.heap.size≤g+1;rw [HG.out];omega) (.int .u8 (d:Int))
   have t1:IntKind.i64.wrap (237-(less:Int))=(d:Int):=by rw [IntKind.wrap_i64];omega
   have t2:(237:Int)-(less:Int)=(d:Int):=by omega
   have t3:IntKind.u8.wrap (d:Int)=(d:Int):=by rw [IntKind.wrap_u8];omega
   obtain ⟨E0,hE0⟩:∃ E,PP-less=E:=⟨_,rfl⟩
   have hE0l:E0<256^32:=by rw [← hE0];exact Nat.lt_of_le_of_lt (Nat.sub_le _ _) PP_lt
   rw [hE0] at hs2
   have HE0:=yh hE0
   have HE0L:=yh hE0l
   have HR2:Hid (RowsW ((wr.setCell ⟨g+1,31,none⟩ (.int .u8 127)).setCell ⟨g+1,0,none⟩ (.int .u8 (d:Int))) [(g+1,arrB (leB 32 (E0/2^0)),22),(g,zai,22)]):=yh (by rw [Nat.pow_zero,Nat.div_one];exact hs2)
   have HB2:=yh hb2
   generalize (L.getD 31 0)=old1 at *
   generalize ((L.set 31 127).getD 0 0)=old0 at *
   have dk:decide (((32:Nat):Int)<32)=false:=by decide
   clear hs hs2 hb2 e2 hL hLl hlt hk hd hle hE0 hE0l HR1 HB1
   go_wp2_with fail
   obtain ⟨W4,hW4⟩:∃ W,(wr.setCell ⟨g+1,31,none⟩ (.int .u8 127)).setCell ⟨g+1,0,none⟩ (.int .u8 (d:Int))=W:=⟨_,rfl⟩
   rw [hW4] at HR2 HB2
   rw [hW4]
   clear hW4 c0 c1 f0 f1 t1 t2 t3
   go_loopw [7] (fun i wr=>∃ n:Nat,n≤halved∧i=.int .i64 (n:Int)∧Hid (RowsW wr [(g+1,arrB (leB 32 (E0/2^n)),22),(g,zai,22)])∧Hid (Below w.heap.size w wr)) (fun i _=>halved-(intOf i).toNat)
   case atStart=>exact ⟨0,by omega,rfl,HR2,HB2⟩
   case round =>
    clear HR2 HB2
    obtain ⟨n,hn,rfl,HR2,HB2⟩:=hrel
    by_cases hlt2:n<halved
    ·obtain ⟨E,hE⟩:∃ E,E0/2^n=E:=⟨_,rfl⟩
     have hEl:E<256^32:=by rw [← hE];exact Nat.lt_of_le_of_lt (Nat.div_le_self _ _) HE0L.out
     have HNX:Hid (leB 32 (E/2)=leB 32 (E0/2^(n+1))):=yh (by rw [← hE,Nat.div_div_eq_div_mul,Nat.pow_succ])
     rw [hE,← halfB9_zero] at HR2
     have HEL:=yh hEl
     have HNL:=yh hlt2
     have dn:decide ((n:Int)<(halved:Int))=true:=decide_eq_true (by omega)
     clear hE hEl hlt2 hn
     go_wp2_with fail
     go_loopw [8] (fun i wr=>∃ k:Nat,k≤32∧i=.int .i64 (k:Int)∧Hid (RowsW wr [(g+1,arrB (halfB9 E k),22),(g,zai,22)])∧Hid (Below w.heap.size w wr)) (fun i _=>32-(intOf i).toNat)
     case atStart=>exact ⟨0,by omega,rfl,HR2,HB2⟩
     case round =>
      clear HR2 HB2
      obtain ⟨k,hk,rfl,HR2,HB2⟩:=hrel
      by_cases hlt3:k<32
      ·obtain ⟨v0,hv0⟩:∃ v,E/256^k % 256=v:=⟨_,rfl⟩
       have hv0l:v0<256:=by rw [← hv0];exact Nat.mod_lt _ (by omega)
       have cx:wr.cell? ⟨g+1,k,none⟩=some (.int .u8 (v0:Int)):=by
        rw [cell_of_row _ _ _ _ _ _ HR2.out.head,zaE _ _ (by rw [halfB9_len _ hk];exact hlt3),halfB9_get E (Nat.le_refl k) hlt3 hk,← hv0]
        simp
       have fx:=za4 HR2.out.head k
       obtain ⟨b,hb⟩:∃ b,E/256^(k+1) % 2=b:=⟨_,rfl⟩
       have hbl:b<2:=by rw [← hb];exact Nat.mod_lt _ (by omega)
       have hby:=half_byte E k
       rw [hv0,hb] at hby
       obtain ⟨h0,hh0⟩:∃ h,v0/2=h:=⟨_,rfl⟩
       have hh0l:h0<128:=by omega
       rw [hh0] at hby
       obtain ⟨nb,hnb⟩:∃ x,h0+b*128=x:=⟨_,rfl⟩
       have hor:=or_half h0 b hh0l hbl
       rw [hnb] at hby hor
       obtain ⟨m,hm⟩:∃ m,b*128=m:=⟨_,rfl⟩
       rw [hm] at hor
       have enb:((UInt8.ofNat (E/2/256^k)).toNat:Int)=(nb:Int):=by rw [← hby];simp
       have hs:=HR2.out.set (by simp) k (.int .u8 ((UInt8.ofNat (E/2/256^k)).toNat:Int))
       rw [za3,halfB9_set E hlt3,enb] at hs
       have HR3:=yh hs
       have HB3:=yh (HB2.out.setCell (p:=⟨g+1,k,none⟩) (by show w.heap.size≤g+1;rw [HG.out];omega) (.int .u8 (nb:Int)))
       have t1:(v0:Int)/2=(h0:Int):=by omega
       have b5:0≤(k:Int):=by omega
       have b6:(k:Int)<32:=by omega
       by_cases hk31:k<31
       ·obtain ⟨j,hj⟩:∃ j,k+1=j:=⟨_,rfl⟩
        obtain ⟨v1,hv1⟩:∃ v,E/256^j % 256=v:=⟨_,rfl⟩
        have hv1l:v1<256:=by rw [← hv1];exact Nat.mod_lt _ (by omega)
        have cy:wr.cell? ⟨g+1,j,none⟩=some (.int .u8 (v1:Int)):=by
         rw [cell_of_row _ _ _ _ _ _ HR2.out.head,zaE _ _ (by rw [halfB9_len _ hk];omega),halfB9_get E (show k≤j by omega) (by omega) hk,← hv1]
         simp
        have hvb:v1 % 2=b:=by rw [← hv1,← hb,hj];omega
        have hand:=u8_and1 v1 hv1l
        rw [hvb] at hand
        have d31:decide ((k:Int)<31)=true:=decide_eq_true (by omega)
        have t2:(k:Int)+1=(j:Int):=by omega
        have t3':(b:Int)*128=(m:Int):=by omega
        have t3:IntKind.u8.wrap (m:Int)=(m:Int):=by rw [IntKind.wrap_u8];omega
        have b7:0≤(j:Int):=by omega
        have b8:(j:Int)<32:=by omega
        clear HR2 HB2 hs enb hnb hby hh0 hb hv0 hv1 hvb hj hlt3 hk hm
        go_wp2_with fail
        go_roundw
        case rel=>exact ⟨k+1,by omega,by go_num,HR3,HB3⟩
        case measure=>simp [intOf] <;> omega
       ·have hk2:k=31:=by omega
        have hb0:b=0:=by rw [← hb,hk2];exact half_top HEL.out
        have hm0:m=0:=by rw [← hm,hb0]
        rw [hm0] at hor
        have hor0:bits .or .u8 (h0:Int) 0=(nb:Int):=hor
        have d31:decide ((k:Int)<31)=false:=decide_eq_false (by omega)
        have d31':¬ (k:Int)<31:=by omega
        clear hor hm hm0 hb0 hk2 hk31
        clear HR2 HB2 hs enb hnb hby hh0 hb hv0 hlt3
        go_wp2_with fail
        go_roundw
        case rel=>exact ⟨k+1,by omega,by go_num,HR3,HB3⟩
        case measure=>simp [intOf] <;> omega
      ·have hk32:k=32:=by omega
       rw [hk32,halfB9_end,HNX.out] at HR2
       have d32:decide ((k:Int)<32)=false:=decide_eq_false (by omega)
       have hnl:=HNL.out
       have hha:=HHA.out
       clear hlt3
       go_wp2_with fail
       go_roundw
       case rel=>exact ⟨n+1,by omega,by go_num,HR2,HB2⟩
       case measure=>simp [intOf] <;> omega
    ·have hnh:n=halved:=by omega
     rw [hnh] at HR2
     obtain ⟨T,hT⟩:∃ T,arrB (leB 32 (E0/2^halved))=T:=⟨_,rfl⟩
     have iT:(Tryz.prog.info? 22).map (·.size)=some T.size:=by rw [← hT];exact zah (zaq _ _)
     have zT:zai.size=T.size:=by rw [← hT];exact zaG (zaq _ _)
     have oT:T.all (·.oneCell')=true:=by rw [← hT];exact zax _
     rw [hT] at HR2
     have l1:=HR2.out.head
     have l2:=HR2.out.tail.head
     have HB:=yh (show Below w.heap.size w (wr.setRow g T) from zab HB2.out (by rw [HG.out];exact Nat.le_refl _))
     have HT:Hid (arrB (leB 32 ((PP-less)/2^halved))=T):=yh (by rw [HE0.out];exact hT)
     have dn:decide ((n:Int)<(halved:Int))=false:=decide_eq_false (by omega)
     clear hlt2 hT HR2 HB2
     go_wp2_with (first
      | (refine yi l1 Tryz.underlying22 iT ?_)
      | (refine yj T l2 iT zT oT ?_))
     (try simp only [Exit.inBlock,Exit.then])
     refine bodyPost_ret (results_cell_row rfl _ _ g _ T _ _ rfl (setRow_heap _ _ _ _ _ _ l2) Tryz.underlying22 rfl iT) rfl ?_
     exact ⟨by rw [HT.out],HB.out⟩
end Go.Proofs.YtkgodlcnoenmbaaGreat
namespace Go.Proofs.YtkgodlcnoenmbaaGreat
open Go.RowKit
set_option linter.unusedVariables false
set_option maxRecDepth 100000
def kA:Array Value:=bytT KP
def kB:Array Value:=bytT (KP+1)
def kQ:Array Value:=bytT (2*KP+1)
def kI:Array Value:=bytT (PP-2)
theorem kA_info:(Tryz.prog.info? 22).map (·.size)=some kA.size:=zaO _
theorem kB_info:(Tryz.prog.info? 22).map (·.size)=some kB.size:=zaO _
theorem kA_one:kA.all (·.oneCell')=true:=zbJ _
theorem kA_at:kA[0]?=some (.int .u8 253):=by unfold kA;rw [bytT_get _ _ (by omega),K_low];rfl
theorem kA_set:kA.setIfInBounds 0 (.int .u8 254)=kB:=by
 unfold kA kB bytT
 rw [show (254:Int)=((254:UInt8).toNat:Int) from rfl,za3,K_inc]
theorem rones_kA (W:World):Calls Tryz.prog 116 #[.int .i64 1,.int .i64 3] W (RetV W (.agg kA)):=by have h:=ronesN 1 3 (by omega) (by omega) W;rw [ones13] at h;exact h
theorem rones_kQ (W:World):Calls Tryz.prog 116 #[.int .i64 1,.int .i64 2] W (RetV W (.agg kQ)):=by have h:=ronesN 1 2 (by omega) (by omega) W;rw [ones12] at h;exact h
theorem rones_kI (W:World):Calls Tryz.prog 116 #[.int .i64 2,.int .i64 0] W (RetV W (.agg kI)):=by have h:=ronesN 2 0 (by omega) (by omega) W;rw [ones20] at h;exact h
theorem rpow_k {x:Nat} (hx:x<PP) (e:Nat) (he:e<256^32) (W:World):Calls Tryz.prog 115 #[.agg (refT x),.agg (bytT e)] W (RetV W (.agg (refT (pwN x e)))):=by
 have h:=rpowN hx (leB 32 e) (zaq _ _) W
 rw [zbr 32 e he] at h
 exact h
theorem rpow_kB {x:Nat} (hx:x<PP) (W:World):Calls Tryz.prog 115 #[.agg (refT x),.agg kB] W (RetV W (.agg (refT (pwN x (KP+1))))):=rpow_k hx _ (by decide) W
theorem rpow_kQ {x:Nat} (hx:x<PP) (W:World):Calls Tryz.prog 115 #[.agg (refT x),.agg kQ] W (RetV W (.agg (refT (pwN x (2*KP+1))))):=rpow_k hx _ (by decide) W
theorem rpow_kI {x:Nat} (hx:x<PP) (W:World):Calls Tryz.prog 115 #[.agg (refT x),.agg kI] W (RetV W (.agg (refT (pwN x (PP-2))))):=rpow_k hx _ (by decide) W
set_option maxHeartbeats 800000 in
theorem rinvN {x:Nat} (hx:x<PP) (w:World):Calls Tryz.prog 63 #[.agg (refT x)] w (RetV w (.agg (refT (invN x)))):=by
 have hzR:=za6
 have HP:Hid (∀ W:World,Calls Tryz.prog 115 #[.agg (refT x),.agg kI] W (RetV W (.agg (refT (invN x))))):=yh fun W=>rpow_kI hx W
 have HR0:=yh (((RowsW.nil w).box (refT x) 56).box (refT 0) 56)
 have HB0:=yh (zaf (zaf (Below.refl w.heap.size w) (refT x) 56) (refT 0) 56)
 rw [World.size_alloc] at HR0
 have HX:=yh hx
 clear hx
 go_enter Tryz.func63,Tryz.ntmps63
 go_upto_region 1 with fail
 obtain ⟨W0,hW0⟩:∃ W,(w.alloc (.cells (refT x) 56)).alloc (.cells (refT 0) 56)=W:=⟨_,rfl⟩
 obtain ⟨g0,hg0⟩:∃ g,w.heap.size=g:=⟨_,rfl⟩
 rw [hW0] at HR0 HB0
 rw [hg0] at HR0
 rw [hW0,hg0]
 have HG0:=yh hg0
 clear hW0 hg0
 refine wp_region_noPanic ?_
 refine zag (S:=fun W=>Below W0.heap.size W0 W) 3 (by kernel_rfl) ⟨by kernel_rfl,by kernel_rfl,by kernel_rfl,by kernel_rfl⟩ (by exact (Below.refl _ _).drew) (fun hT inv hS=>?_)
 refine' yT 0 hT inv hS (fun inv=>?_) (hy:=fun W hSW=>zac rfl rfl (HR0.out.below hSW).tail.head Tryz.underlying56 rfl (zad _))
 refine xT 1 inv (fun K hK=>?_)
 go_simp
 with_reducible refine (rones_kI _).mono ?_
 rintro e vq1 ⟨rfl,hbq1⟩
 have kbq1:=zaa hS hbq1
 clear hS hbq1
 refine hK.out _ _ (by exact kbq1) (fun inv hS=>?_)
 clear hK K
 refine xT 2 inv (fun K hK=>?_)
 go_simp
 obtain ⟨n2,Hn2,HLn2⟩:=ym (K:=PP) (pwN x (PP-2)) (pwN_lt _ _)
 have kq3:=fun W:World=>(rpow_kI HX.out) W
 rw [Hn2.out] at kq3
 have Kq3:=yh kq3
 clear kq3
 with_reducible refine (Kq3.out _).mono ?_
 rintro e vq3 ⟨rfl,hbq3⟩
 have kbq3:=zaa kbq1 hbq3
 clear hS hbq3
 refine hK.out _ _ (by exact kbq3) (fun inv hS=>?_)
 clear hK K
 refine zaN (by kernel_rfl) ?_
 simp only [List.drop_succ_cons,List.drop_zero]
 clear hS
 (try simp only [Act.put])
 have HRq4:=yh (HR0.out.below kbq3)
 have HBq4:=yh (zaa HB0.out kbq3)
 have lsq5:=HRq4.out.head
 have HRq5:Hid (RowsW (vq3.setRow (g0+1) (refT n2)) [((g0+1),(refT n2),56),(g0,(refT x),56)]):=yh ⟨setRow_heap _ _ _ _ _ _ lsq5,(by rw [setRow_other _ _ _ _ (by omega)];exact HRq4.out.tail.head),trivial⟩
 have HBq5:=yh (zab (g:=(g0+1)) (cs:=(refT n2)) HBq4.out (by have:=HG0.out;omega))
 go_wp2_with (refine yj (refT n2) lsq5 (zad _) (zat _ _) (zav _) ?_)
 obtain ⟨Wq5,hWq5⟩:∃ W,vq3.setRow (g0+1) (refT n2)=W:=⟨_,rfl⟩
 rw [hWq5] at HRq5 HBq5
 (try rw [hWq5])
 clear hWq5 lsq5
 refine NoPanic.normal ?_
 go_wp2_with fail
 (try simp only [Exit.inBlock,Exit.then])
 refine bodyPost_ret (results_cell_row rfl _ _ (g0+1) _ (refT n2) _ _ rfl HRq5.out.head Tryz.underlying56 rfl (zad _)) rfl ?_
 exact ⟨by rw [show invN x=n2 from Hn2.out],HBq5.out⟩
set_option maxHeartbeats 6400000 in
theorem rsqrtN {x:Nat} (hx:x<PP) (w:World):Calls Tryz.prog 156 #[.agg (refT x)] w (RetV w (.tuple #[.agg (refT (rootN x)),.bool (isN x)])):=by
 have hzR:=za6
 have hz32:=zao
 have HR0:=yh (((RowsW.nil w).box (refT x) 56).box (refT 0) 56)
 have HB0:=yh (zaf (zaf (Below.refl w.heap.size w) (refT x) 56) (refT 0) 56)
 rw [World.size_alloc] at HR0
 have HX:=yh hx
 clear hx
 go_enter Tryz.func156,Tryz.ntmps156
 go_wp2_with fail
 obtain ⟨W0,hW0⟩:∃ W,(w.alloc (.cells (refT x) 56)).alloc (.cells (refT 0) 56)=W:=⟨_,rfl⟩
 obtain ⟨g0,hg0⟩:∃ g,w.heap.size=g:=⟨_,rfl⟩
 rw [hW0] at HR0 HB0
 rw [hg0] at HR0
 rw [hW0,hg0]
 have HG0:=yh hg0
 clear hW0 hg0
 with_reducible refine (rones_kA _).mono ?_
 rintro e vq1 ⟨rfl,hbq1⟩
 have HRq1:=yh (HR0.out.below hbq1)
 have HBq1:=yh (zaa HB0.out hbq1)
 clear hbq1
 have h0q2:(vq1.alloc (.cells zai 22)).heap[vq1.heap.size]?=some (.cells zai 22 (0,0)):=heap_alloc_new _ _
 have HRq2:=yh (HRq1.out.new zai kA 22)
 have HBq2:=yh (zan HBq1.out zai kA 22)
 have HNq2:=yh HRq1.out.ne
 have HGq2:=yh HBq1.out.size
 go_upto_region 2 with (refine yj kA h0q2 kA_info (zbc _) kA_one ?_)
 obtain ⟨Wq2,hWq2⟩:∃ W,(vq1.alloc (.cells zai 22)).setRow vq1.heap.size kA=W:=⟨_,rfl⟩
 obtain ⟨gq2,hgq2⟩:∃ g,vq1.heap.size=g:=⟨_,rfl⟩
 rw [hWq2,hgq2] at HRq2
 rw [hWq2] at HBq2
 rw [hgq2] at HNq2 HGq2
 rw [hWq2,hgq2]
 clear hWq2 hgq2 h0q2
 have NEq2_0:Hid (g0≠gq2):=yh (HNq2.out (g0,(refT x),56) (by simp))
 have NEq2_1:Hid ((g0+1)≠gq2):=yh (HNq2.out ((g0+1),(refT 0),56) (by simp))
 have cx:Wq2.cell? ⟨gq2,0,none⟩=some (.int .u8 253):=by rw [cell_of_row _ _ _ _ _ _ HRq2.out.head,kA_at]
 have fx:=za4 HRq2.out.head 0
 have hs:=HRq2.out.set HNq2.out 0 (.int .u8 254)
 rw [kA_set] at hs
 have hb9:=HBq2.out.setCell (p:=⟨gq2,0,none⟩) (by show w.heap.size≤gq2;exact HGq2.out) (.int .u8 254)
 obtain ⟨W9,hW9⟩:∃ W9,Wq2.setCell ⟨gq2,0,none⟩ (.int .u8 254)=W9:=⟨_,rfl⟩
 rw [hW9] at hs hb9
 have HR9:=yh hs
 have HB9:=yh hb9
 have HW9:=yh hW9
 clear hs hb9 hW9
 go_upto_region 3 with fail
 rw [HW9.out]
 clear HW9 cx fx
 have l3:=HR9.out.tail.tail.head
 have l4:=HR9.out.head
 go_wp2_with (first
   | (refine yi l3 Tryz.underlying56 (zad _) ?_)
   | (refine yi l4 Tryz.underlying22 kB_info ?_))
 obtain ⟨n5,Hn5,HLn5⟩:=ym (K:=PP) (pwN x (KP+1)) (pwN_lt _ _)
 have kq6:=fun W:World=>(rpow_kB HX.out) W
 rw [Hn5.out] at kq6
 have Kq6:=yh kq6
 clear kq6
 with_reducible refine (Kq6.out _).mono ?_
 rintro e vq6 ⟨rfl,hbq6⟩
 have HRq6:=yh (HR9.out.below hbq6)
 have HBq6:=yh (zaa HB9.out hbq6)
 clear hbq6
 have h0q7:(vq6.alloc (.cells (refT 0) 56)).heap[vq6.heap.size]?=some (.cells (refT 0) 56 (0,0)):=heap_alloc_new _ _
 have HRq7:=yh (HRq6.out.new (refT 0) (refT n5) 56)
 have HBq7:=yh (zan HBq6.out (refT 0) (refT n5) 56)
 have HNq7:=yh HRq6.out.ne
 have HGq7:=yh HBq6.out.size
 go_upto_region 4 with (refine yj (refT n5) h0q7 (zad _) (zat _ _) (zav _) ?_)
 obtain ⟨Wq7,hWq7⟩:∃ W,(vq6.alloc (.cells (refT 0) 56)).setRow vq6.heap.size (refT n5)=W:=⟨_,rfl⟩
 obtain ⟨gq7,hgq7⟩:∃ g,vq6.heap.size=g:=⟨_,rfl⟩
 rw [hWq7,hgq7] at HRq7
 rw [hWq7] at HBq7
 rw [hgq7] at HNq7 HGq7
 rw [hWq7,hgq7]
 clear hWq7 hgq7 h0q7
 have NEq7_0:Hid (g0≠gq7):=yh (HNq7.out (g0,(refT x),56) (by simp))
 have NEq7_1:Hid ((g0+1)≠gq7):=yh (HNq7.out ((g0+1),(refT 0),56) (by simp))
 have NEq7_2:Hid (gq2≠gq7):=yh (HNq7.out (gq2,kB,22) (by simp))
 obtain ⟨n8,Hn8,HLn8⟩:=ym (K:=PP) ((n5*n5) % PP) (Nat.mod_lt _ (by decide))
 by_cases hA:n8=x
 ·have HA1:=yh hA
  clear hA
  refine wp_region_noPanic ?_
  refine wp_region_held_drew (S:=fun W=>Below Wq7.heap.size Wq7 W) (by kernel_rfl) (by exact (Below.refl _ _).drew) (fun hS=>?_)
  refine' yk 0  hS ?_ (hy:=fun W hSW=>zac rfl rfl (HRq7.out.below hSW).head Tryz.underlying56 rfl (zad _))
  refine' yk 1  hS ?_ (hy:=fun W hSW=>zac rfl rfl (HRq7.out.below hSW).head Tryz.underlying56 rfl (zad _))
  refine' yk 3  hS ?_ (hy:=fun W hSW=>zac rfl rfl (HRq7.out.below hSW).tail.tail.tail.head Tryz.underlying56 rfl (zad _))
  refine xk 2  (fun K hK=>?_)
  go_simp
  have kq9:=fun W:World=>(rmulN HLn5.out HLn5.out) W
  rw [Hn8.out] at kq9
  have Kq9:=yh kq9
  clear kq9
  with_reducible refine (Kq9.out _).mono ?_
  rintro e vq9 ⟨rfl,hbq9⟩
  have kbq9:=zaa hS hbq9
  clear hS hbq9
  refine hK.out _ _ (by exact kbq9) (fun hS=>?_)
  clear hK K
  refine' yk 4  hS ?_ (hy:=fun W hSW=>za2 rfl rfl rfl guardR (neRefT HLn8.out HX.out (HA1.out) W))
  refine wpAnyH_done (by kernel_rfl) ?_ _
  refine NoPanic.normal ?_
  clear hS
  (try simp only [Act.put])
  have HRq10:=yh (HRq7.out.below kbq9)
  have HBq10:=yh (zaa HBq7.out kbq9)
  go_upto_region 6 with fail
  refine wp_region_noPanic ?_
  refine wp_region_held_drew (S:=fun W=>Below vq9.heap.size vq9 W) (by kernel_rfl) (by exact (Below.refl _ _).drew) (fun hS=>?_)
  refine' yk 0  hS ?_ (hy:=fun W hSW=>zac rfl rfl (HRq10.out.below hSW).head Tryz.underlying56 rfl (zad _))
  refine' yk 1  hS ?_ (hy:=fun W hSW=>zac rfl rfl (HRq10.out.below hSW).head Tryz.underlying56 rfl (zad _))
  refine' yk 3  hS ?_ (hy:=fun W hSW=>zac rfl rfl (HRq10.out.below hSW).tail.tail.tail.head Tryz.underlying56 rfl (zad _))
  refine xk 2  (fun K hK=>?_)
  go_simp
  have kq11:=fun W:World=>(rmulN HLn5.out HLn5.out) W
  rw [Hn8.out] at kq11
  have Kq11:=yh kq11
  clear kq11
  with_reducible refine (Kq11.out _).mono ?_
  rintro e vq11 ⟨rfl,hbq11⟩
  have kbq11:=zaa hS hbq11
  clear hS hbq11
  refine hK.out _ _ (by exact kbq11) (fun hS=>?_)
  clear hK K
  refine' yk 4  hS ?_ (hy:=fun W hSW=>za2 rfl rfl rfl guardR (neRefT HLn8.out HX.out (HA1.out) W))
  refine wpAnyH_done (by kernel_rfl) ?_ _
  refine NoPanic.normal ?_
  clear hS
  (try simp only [Act.put])
  have HRq12:=yh (HRq10.out.below kbq11)
  have HBq12:=yh (zaa HBq10.out kbq11)
  go_upto_region 8 with fail
  by_cases hod:n5 % 2=1
  ·have hod2:=hod
   have l13:=HRq12.out.head
   go_wp2_with (refine yi l13 Tryz.underlying56 (zad _) ?_)
   have kq14:=fun W:World=>(roddN n5) W
   rw [decide_eq_true hod] at kq14
   have Kq14:=yh kq14
   clear kq14
   with_reducible refine (Kq14.out _).mono ?_
   rintro e vq14 ⟨rfl,hbq14⟩
   have HRq14:=yh (HRq12.out.below hbq14)
   have HBq14:=yh (zaa HBq12.out hbq14)
   clear hbq14
   go_upto_region 9 with fail
   have l15:=HRq14.out.head
   go_wp2_with (refine yi l15 Tryz.underlying56 (zad _) ?_)
   obtain ⟨n16,Hn16,HLn16⟩:=ym (K:=PP) ((PP-n5) % PP) (Nat.mod_lt _ (by decide))
   have kq17:=fun W:World=>(rnegN HLn5.out) W
   rw [Hn16.out] at kq17
   have Kq17:=yh kq17
   clear kq17
   with_reducible refine (Kq17.out _).mono ?_
   rintro e vq17 ⟨rfl,hbq17⟩
   have HRq17:=yh (HRq14.out.below hbq17)
   have HBq17:=yh (zaa HBq14.out hbq17)
   clear hbq17
   have lsq18:=HRq17.out.head
   have HRq18:Hid (RowsW (vq17.setRow gq7 (refT n16)) [(gq7,(refT n16),56),(gq2,kB,22),((g0+1),(refT 0),56),(g0,(refT x),56)]):=yh ⟨setRow_heap _ _ _ _ _ _ lsq18,(by rw [setRow_other _ _ _ _ NEq7_2.out];exact HRq17.out.tail.head),(by rw [setRow_other _ _ _ _ NEq7_1.out];exact HRq17.out.tail.tail.head),(by rw [setRow_other _ _ _ _ NEq7_0.out];exact HRq17.out.tail.tail.tail.head),trivial⟩
   have HBq18:=yh (zab (g:=gq7) (cs:=(refT n16)) HBq17.out HGq7.out)
   go_upto_region 10 with (refine yj (refT n16) lsq18 (zad _) (zat _ _) (zav _) ?_)
   obtain ⟨Wq18,hWq18⟩:∃ W,vq17.setRow gq7 (refT n16)=W:=⟨_,rfl⟩
   rw [hWq18] at HRq18 HBq18
   (try rw [hWq18])
   clear hWq18 lsq18
   have lz:=HRq18.out.head
   have lr:=HRq18.out.tail.tail.head
   have HBx:=yh (zab (g:=g0+1) (cs:=(refT n16)) HBq18.out (by have:=HG0.out;omega))
   go_wp2_with (first | (refine yi lz Tryz.underlying56 (zad _) ?_) | (refine yj (refT n16) lr (zad _) (zat _ _) (zav _) ?_))
   (try simp only [Exit.inBlock,Exit.then])
   refine bodyPost_ret (zaw rfl _ _ (g0+1) _ (refT n16) _ _ (.bool true) rfl rfl (setRow_heap _ _ _ _ _ _ lr) Tryz.underlying56 rfl (zad _)) rfl ?_
   obtain ⟨e1,e2⟩:=(show rootN x=n16∧isN x=true from ⟨by rw [← Hn16.out,(rootA (by rw [Hn5.out,Hn8.out];exact HA1.out)).1,Hn5.out,fix_odd hod],(rootA (by rw [Hn5.out,Hn8.out];exact HA1.out)).2⟩)
   exact ⟨by rw [e1,e2],HBx.out⟩
  ·have hod2:=hod
   have l19:=HRq12.out.head
   go_wp2_with (refine yi l19 Tryz.underlying56 (zad _) ?_)
   have kq20:=fun W:World=>(roddN n5) W
   rw [decide_eq_false hod] at kq20
   have Kq20:=yh kq20
   clear kq20
   with_reducible refine (Kq20.out _).mono ?_
   rintro e vq20 ⟨rfl,hbq20⟩
   have HRq20:=yh (HRq12.out.below hbq20)
   have HBq20:=yh (zaa HBq12.out hbq20)
   clear hbq20
   go_upto_region 10 with fail
   have lz:=HRq20.out.head
   have lr:=HRq20.out.tail.tail.head
   have HBx:=yh (zab (g:=g0+1) (cs:=(refT n5)) HBq20.out (by have:=HG0.out;omega))
   go_wp2_with (first | (refine yi lz Tryz.underlying56 (zad _) ?_) | (refine yj (refT n5) lr (zad _) (zat _ _) (zav _) ?_))
   (try simp only [Exit.inBlock,Exit.then])
   refine bodyPost_ret (zaw rfl _ _ (g0+1) _ (refT n5) _ _ (.bool true) rfl rfl (setRow_heap _ _ _ _ _ _ lr) Tryz.underlying56 rfl (zad _)) rfl ?_
   obtain ⟨e1,e2⟩:=(show rootN x=n5∧isN x=true from ⟨by rw [(rootA (by rw [Hn5.out,Hn8.out];exact HA1.out)).1,Hn5.out,fix_even hod],(rootA (by rw [Hn5.out,Hn8.out];exact HA1.out)).2⟩)
   exact ⟨by rw [e1,e2],HBx.out⟩
 ·have HA1:=yh hA
  clear hA
  refine wp_region_noPanic ?_
  refine wp_region_held_drew (S:=fun W=>Below Wq7.heap.size Wq7 W) (by kernel_rfl) (by exact (Below.refl _ _).drew) (fun hS=>?_)
  refine' yk 0  hS ?_ (hy:=fun W hSW=>zac rfl rfl (HRq7.out.below hSW).head Tryz.underlying56 rfl (zad _))
  refine' yk 1  hS ?_ (hy:=fun W hSW=>zac rfl rfl (HRq7.out.below hSW).head Tryz.underlying56 rfl (zad _))
  refine' yk 3  hS ?_ (hy:=fun W hSW=>zac rfl rfl (HRq7.out.below hSW).tail.tail.tail.head Tryz.underlying56 rfl (zad _))
  refine xk 2  (fun K hK=>?_)
  go_simp
  have kq21:=fun W:World=>(rmulN HLn5.out HLn5.out) W
  rw [Hn8.out] at kq21
  have Kq21:=yh kq21
  clear kq21
  with_reducible refine (Kq21.out _).mono ?_
  rintro e vq21 ⟨rfl,hbq21⟩
  have kbq21:=zaa hS hbq21
  clear hS hbq21
  refine hK.out _ _ (by exact kbq21) (fun hS=>?_)
  clear hK K
  refine' yk 4  hS ?_ (hy:=fun W hSW=>za2 rfl rfl rfl guardR (neRefF HLn8.out HX.out (HA1.out) W))
  refine wpAnyH_done (by kernel_rfl) ?_ _
  refine NoPanic.normal ?_
  clear hS
  (try simp only [Act.put])
  have HRq22:=yh (HRq7.out.below kbq21)
  have HBq22:=yh (zaa HBq7.out kbq21)
  go_upto_region 5 with fail
  refine wp_region_noPanic ?_
  refine zag (S:=fun W=>Below vq21.heap.size vq21 W) 5 (by kernel_rfl) ⟨by kernel_rfl,by kernel_rfl,by kernel_rfl,by kernel_rfl⟩ (by exact (Below.refl _ _).drew) (fun hT inv hS=>?_)
  refine' yT 0 hT inv hS (fun inv=>?_) (hy:=fun W hSW=>zac rfl rfl (HRq22.out.below hSW).head Tryz.underlying56 rfl (zad _))
  refine xT 1 inv (fun K hK=>?_)
  go_simp
  have sm20:∀ W:World,Calls Tryz.prog 72 #[.int .u64 2] W (RetV W (.agg (refT 2))):=fun W=>rsmallN 2 (by decide) W
  with_reducible refine (sm20 _).mono ?_
  rintro e vq23 ⟨rfl,hbq23⟩
  have kbq23:=zaa hS hbq23
  clear hS hbq23
  refine hK.out _ _ (by exact kbq23) (fun inv hS=>?_)
  clear hK K
  refine xT 2 inv (fun K hK=>?_)
  go_simp
  with_reducible refine (rones_kQ _).mono ?_
  rintro e vq24 ⟨rfl,hbq24⟩
  have kbq24:=zaa kbq23 hbq24
  clear hS hbq24
  refine hK.out _ _ (by exact kbq24) (fun inv hS=>?_)
  clear hK K
  refine xT 3 inv (fun K hK=>?_)
  go_simp
  obtain ⟨n25,Hn25,HLn25⟩:=ym (K:=PP) (pwN 2 (2*KP+1)) (pwN_lt _ _)
  have kq26:=fun W:World=>(rpow_kQ (show 2<PP by decide)) W
  rw [Hn25.out] at kq26
  have Kq26:=yh kq26
  clear kq26
  with_reducible refine (Kq26.out _).mono ?_
  rintro e vq26 ⟨rfl,hbq26⟩
  have kbq26:=zaa kbq24 hbq26
  clear hS hbq26
  refine hK.out _ _ (by exact kbq26) (fun inv hS=>?_)
  clear hK K
  refine xT 4 inv (fun K hK=>?_)
  go_simp
  obtain ⟨n27,Hn27,HLn27⟩:=ym (K:=PP) ((n5*n25) % PP) (Nat.mod_lt _ (by decide))
  have kq28:=fun W:World=>(rmulN HLn5.out HLn25.out) W
  rw [Hn27.out] at kq28
  have Kq28:=yh kq28
  clear kq28
  with_reducible refine (Kq28.out _).mono ?_
  rintro e vq28 ⟨rfl,hbq28⟩
  have kbq28:=zaa kbq26 hbq28
  clear hS hbq28
  refine hK.out _ _ (by exact kbq28) (fun inv hS=>?_)
  clear hK K
  refine zaN (by kernel_rfl) ?_
  simp only [List.drop_succ_cons,List.drop_zero]
  clear hS
  (try simp only [Act.put])
  have HRq29:=yh (HRq22.out.below kbq28)
  have HBq29:=yh (zaa HBq22.out kbq28)
  have lsq30:=HRq29.out.head
  have HRq30:Hid (RowsW (vq28.setRow gq7 (refT n27)) [(gq7,(refT n27),56),(gq2,kB,22),((g0+1),(refT 0),56),(g0,(refT x),56)]):=yh ⟨setRow_heap _ _ _ _ _ _ lsq30,(by rw [setRow_other _ _ _ _ NEq7_2.out];exact HRq29.out.tail.head),(by rw [setRow_other _ _ _ _ NEq7_1.out];exact HRq29.out.tail.tail.head),(by rw [setRow_other _ _ _ _ NEq7_0.out];exact HRq29.out.tail.tail.tail.head),trivial⟩
  have HBq30:=yh (zab (g:=gq7) (cs:=(refT n27)) HBq29.out HGq7.out)
  go_wp2_with (refine yj (refT n27) lsq30 (zad _) (zat _ _) (zav _) ?_)
  obtain ⟨Wq30,hWq30⟩:∃ W,vq28.setRow gq7 (refT n27)=W:=⟨_,rfl⟩
  rw [hWq30] at HRq30 HBq30
  (try rw [hWq30])
  clear hWq30 lsq30
  refine NoPanic.normal ?_
  go_upto_region 6 with fail
  obtain ⟨n31,Hn31,HLn31⟩:=ym (K:=PP) ((n27*n27) % PP) (Nat.mod_lt _ (by decide))
  by_cases hB:n31=x
  ·have HB1:=yh hB
   clear hB
   refine wp_region_noPanic ?_
   refine wp_region_held_drew (S:=fun W=>Below Wq30.heap.size Wq30 W) (by kernel_rfl) (by exact (Below.refl _ _).drew) (fun hS=>?_)
   refine' yk 0  hS ?_ (hy:=fun W hSW=>zac rfl rfl (HRq30.out.below hSW).head Tryz.underlying56 rfl (zad _))
   refine' yk 1  hS ?_ (hy:=fun W hSW=>zac rfl rfl (HRq30.out.below hSW).head Tryz.underlying56 rfl (zad _))
   refine' yk 3  hS ?_ (hy:=fun W hSW=>zac rfl rfl (HRq30.out.below hSW).tail.tail.tail.head Tryz.underlying56 rfl (zad _))
   refine xk 2  (fun K hK=>?_)
   go_simp
   have kq32:=fun W:World=>(rmulN HLn27.out HLn27.out) W
   rw [Hn31.out] at kq32
   have Kq32:=yh kq32
   clear kq32
   with_reducible refine (Kq32.out _).mono ?_
   rintro e vq32 ⟨rfl,hbq32⟩
   have kbq32:=zaa hS hbq32
   clear hS hbq32
   refine hK.out _ _ (by exact kbq32) (fun hS=>?_)
   clear hK K
   refine' yk 4  hS ?_ (hy:=fun W hSW=>za2 rfl rfl rfl guardR (neRefT HLn31.out HX.out (HB1.out) W))
   refine wpAnyH_done (by kernel_rfl) ?_ _
   refine NoPanic.normal ?_
   clear hS
   (try simp only [Act.put])
   have HRq33:=yh (HRq30.out.below kbq32)
   have HBq33:=yh (zaa HBq30.out kbq32)
   go_upto_region 8 with fail
   by_cases hod:n27 % 2=1
   ·have hod2:=hod
    have l34:=HRq33.out.head
    go_wp2_with (refine yi l34 Tryz.underlying56 (zad _) ?_)
    have kq35:=fun W:World=>(roddN n27) W
    rw [decide_eq_true hod] at kq35
    have Kq35:=yh kq35
    clear kq35
    with_reducible refine (Kq35.out _).mono ?_
    rintro e vq35 ⟨rfl,hbq35⟩
    have HRq35:=yh (HRq33.out.below hbq35)
    have HBq35:=yh (zaa HBq33.out hbq35)
    clear hbq35
    go_upto_region 9 with fail
    have l36:=HRq35.out.head
    go_wp2_with (refine yi l36 Tryz.underlying56 (zad _) ?_)
    obtain ⟨n37,Hn37,HLn37⟩:=ym (K:=PP) ((PP-n27) % PP) (Nat.mod_lt _ (by decide))
    have kq38:=fun W:World=>(rnegN HLn27.out) W
    rw [Hn37.out] at kq38
    have Kq38:=yh kq38
    clear kq38
    with_reducible refine (Kq38.out _).mono ?_
    rintro e vq38 ⟨rfl,hbq38⟩
    have HRq38:=yh (HRq35.out.below hbq38)
    have HBq38:=yh (zaa HBq35.out hbq38)
    clear hbq38
    have lsq39:=HRq38.out.head
    have HRq39:Hid (RowsW (vq38.setRow gq7 (refT n37)) [(gq7,(refT n37),56),(gq2,kB,22),((g0+1),(refT 0),56),(g0,(refT x),56)]):=yh ⟨setRow_heap _ _ _ _ _ _ lsq39,(by rw [setRow_other _ _ _ _ NEq7_2.out];exact HRq38.out.tail.head),(by rw [setRow_other _ _ _ _ NEq7_1.out];exact HRq38.out.tail.tail.head),(by rw [setRow_other _ _ _ _ NEq7_0.out];exact HRq38.out.tail.tail.tail.head),trivial⟩
    have HBq39:=yh (zab (g:=gq7) (cs:=(refT n37)) HBq38.out HGq7.out)
    go_upto_region 10 with (refine yj (refT n37) lsq39 (zad _) (zat _ _) (zav _) ?_)
    obtain ⟨Wq39,hWq39⟩:∃ W,vq38.setRow gq7 (refT n37)=W:=⟨_,rfl⟩
    rw [hWq39] at HRq39 HBq39
    (try rw [hWq39])
    clear hWq39 lsq39
    have lz:=HRq39.out.head
    have lr:=HRq39.out.tail.tail.head
    have HBx:=yh (zab (g:=g0+1) (cs:=(refT n37)) HBq39.out (by have:=HG0.out;omega))
    go_wp2_with (first | (refine yi lz Tryz.underlying56 (zad _) ?_) | (refine yj (refT n37) lr (zad _) (zat _ _) (zav _) ?_))
    (try simp only [Exit.inBlock,Exit.then])
    refine bodyPost_ret (zaw rfl _ _ (g0+1) _ (refT n37) _ _ (.bool true) rfl rfl (setRow_heap _ _ _ _ _ _ lr) Tryz.underlying56 rfl (zad _)) rfl ?_
    obtain ⟨e1,e2⟩:=(show rootN x=n37∧isN x=true from ⟨by rw [← Hn37.out,(rootB (by rw [Hn5.out,Hn8.out];exact HA1.out) (by rw [Hn5.out,Hn25.out,Hn27.out,Hn31.out];exact HB1.out)).1,show (pwN x (KP+1)*pwN 2 (2*KP+1)) % PP=n27 from (by rw [Hn5.out,Hn25.out,Hn27.out]),fix_odd hod],(rootB (by rw [Hn5.out,Hn8.out];exact HA1.out) (by rw [Hn5.out,Hn25.out,Hn27.out,Hn31.out];exact HB1.out)).2⟩)
    exact ⟨by rw [e1,e2],HBx.out⟩
   ·have hod2:=hod
    have l40:=HRq33.out.head
    go_wp2_with (refine yi l40 Tryz.underlying56 (zad _) ?_)
    have kq41:=fun W:World=>(roddN n27) W
    rw [decide_eq_false hod] at kq41
    have Kq41:=yh kq41
    clear kq41
    with_reducible refine (Kq41.out _).mono ?_
    rintro e vq41 ⟨rfl,hbq41⟩
    have HRq41:=yh (HRq33.out.below hbq41)
    have HBq41:=yh (zaa HBq33.out hbq41)
    clear hbq41
    go_upto_region 10 with fail
    have lz:=HRq41.out.head
    have lr:=HRq41.out.tail.tail.head
    have HBx:=yh (zab (g:=g0+1) (cs:=(refT n27)) HBq41.out (by have:=HG0.out;omega))
    go_wp2_with (first | (refine yi lz Tryz.underlying56 (zad _) ?_) | (refine yj (refT n27) lr (zad _) (zat _ _) (zav _) ?_))
    (try simp only [Exit.inBlock,Exit.then])
    refine bodyPost_ret (zaw rfl _ _ (g0+1) _ (refT n27) _ _ (.bool true) rfl rfl (setRow_heap _ _ _ _ _ _ lr) Tryz.underlying56 rfl (zad _)) rfl ?_
    obtain ⟨e1,e2⟩:=(show rootN x=n27∧isN x=true from ⟨by rw [(rootB (by rw [Hn5.out,Hn8.out];exact HA1.out) (by rw [Hn5.out,Hn25.out,Hn27.out,Hn31.out];exact HB1.out)).1,show (pwN x (KP+1)*pwN 2 (2*KP+1)) % PP=n27 from (by rw [Hn5.out,Hn25.out,Hn27.out]),fix_even hod],(rootB (by rw [Hn5.out,Hn8.out];exact HA1.out) (by rw [Hn5.out,Hn25.out,Hn27.out,Hn31.out];exact HB1.out)).2⟩)
    exact ⟨by rw [e1,e2],HBx.out⟩
  ·have HB1:=yh hB
   clear hB
   refine wp_region_noPanic ?_
   refine wp_region_held_drew (S:=fun W=>Below Wq30.heap.size Wq30 W) (by kernel_rfl) (by exact (Below.refl _ _).drew) (fun hS=>?_)
   refine' yk 0  hS ?_ (hy:=fun W hSW=>zac rfl rfl (HRq30.out.below hSW).head Tryz.underlying56 rfl (zad _))
   refine' yk 1  hS ?_ (hy:=fun W hSW=>zac rfl rfl (HRq30.out.below hSW).head Tryz.underlying56 rfl (zad _))
   refine' yk 3  hS ?_ (hy:=fun W hSW=>zac rfl rfl (HRq30.out.below hSW).tail.tail.tail.head Tryz.underlying56 rfl (zad _))
   refine xk 2  (fun K hK=>?_)
   go_simp
   have kq42:=fun W:World=>(rmulN HLn27.out HLn27.out) W
   rw [Hn31.out] at kq42
   have Kq42:=yh kq42
   clear kq42
   with_reducible refine (Kq42.out _).mono ?_
   rintro e vq42 ⟨rfl,hbq42⟩
   have kbq42:=zaa hS hbq42
   clear hS hbq42
   refine hK.out _ _ (by exact kbq42) (fun hS=>?_)
   clear hK K
   refine' yk 4  hS ?_ (hy:=fun W hSW=>za2 rfl rfl rfl guardR (neRefF HLn31.out HX.out (HB1.out) W))
   refine wpAnyH_done (by kernel_rfl) ?_ _
   refine NoPanic.normal ?_
   clear hS
   (try simp only [Act.put])
   have HRq43:=yh (HRq30.out.below kbq42)
   have HBq43:=yh (zaa HBq30.out kbq42)
   go_upto_region 7 with fail
   have lr:=HRq43.out.tail.tail.head
   have HBx:=yh (zab (g:=g0+1) (cs:=refT 0) HBq43.out (by have:=HG0.out;omega))
   go_wp2_with (refine yj (refT 0) lr (zad _) rfl (zav _) ?_)
   (try simp only [Exit.inBlock,Exit.then])
   refine bodyPost_ret (zaw rfl _ _ (g0+1) _ (refT 0) _ _ (.bool false) rfl rfl (setRow_heap _ _ _ _ _ _ lr) Tryz.underlying56 rfl (zad _)) rfl ?_
   obtain ⟨e1,e2⟩:=rootC (by rw [Hn5.out,Hn8.out];exact HA1.out) (by rw [Hn5.out,Hn25.out,Hn27.out,Hn31.out];exact HB1.out)
   exact ⟨by rw [e1,e2],HBx.out⟩
end Go.Proofs.YtkgodlcnoenmbaaGreat
namespace Go.Proofs.YtkgodlcnoenmbaaGreat
open Go.RowKit
set_option linter.unusedVariables false
set_option maxRecDepth 100000
set_option maxHeartbeats 6400000 in
theorem rratioN {u v:Nat} (hu:u<PP) (hv:v<PP) (w:World):Calls Tryz.prog 119 #[.agg (refT u),.agg (refT v)] w (RetV w (.tuple #[.agg (refT (ratN u v)),.bool (fineN u v)])):=by
 have hzR:=za6
 have HR0:=yh ((((RowsW.nil w).box (refT u) 56).box (refT v) 56).box (refT 0) 56)
 have HB0:=yh (zaf (zaf (zaf (Below.refl w.heap.size w) (refT u) 56) (refT v) 56) (refT 0) 56)
 rw [World.size_alloc,World.size_alloc] at HR0
 have HU:=yh hu
 have HV:=yh hv
 clear hu hv
 go_enter Tryz.func119,Tryz.ntmps119
 go_upto_region 1 with fail
 obtain ⟨W0,hW0⟩:∃ W,((w.alloc (.cells (refT u) 56)).alloc (.cells (refT v) 56)).alloc (.cells (refT 0) 56)=W:=⟨_,rfl⟩
 obtain ⟨g0,hg0⟩:∃ g,w.heap.size=g:=⟨_,rfl⟩
 rw [hW0] at HR0 HB0
 rw [hg0] at HR0
 rw [hW0,hg0]
 have HG0:=yh hg0
 clear hW0 hg0
 have l1:=HR0.out.tail.head
 have hm:=guardR
 by_cases h0:v=0
 ·have HV0:=yh h0
  clear h0
  go_upto_region 2 with (first | (refine yi l1 Tryz.underlying56 (zad _) ?_) | (refine zaS (o:=⟨some 8,_,_,_,_,_⟩) rfl (.bool true) (za2 rfl rfl rfl guardR (eqRefT HV.out (show 0<PP by decide) HV0.out _)) ?_))
  obtain ⟨b1,hb1⟩:∃ y:Bool,decide (u=0)=y:=⟨_,rfl⟩
  have E0:∀ W:World,(binOp .eql 56 (.agg (refT u)) (.agg (refT 0))).run Tryz.prog W=.ok (.bool b1) W:=fun W=>by have h:=eqRef HU.out (show 0<PP by decide) W;rw [hb1] at h;exact h
  have HBB:=yh hb1
  clear hb1
  have lu:=HR0.out.tail.tail.head
  have lr:=HR0.out.head
  refine wp_region_noPanic ?_
  refine wp_region_held_drew (S:=fun W=>W.heap[g0]?=some (.cells (refT u) 56 (0,0))) (by kernel_rfl) (by exact lu) (fun hS=>?_)
  refine' yk 0  hS ?_
  refine' yk 1  hS ?_ (hy:=fun W hSW=>zac rfl rfl hSW Tryz.underlying56 rfl (zad _))
  refine' yk 2  hS ?_
  refine' yk 3  hS ?_ (hy:=fun W hSW=>za2 rfl rfl rfl guardR (E0 W))
  refine xk 4  (fun K hK=>?_)
  refine wp_store_row 56 (.tmp 4) (.tmp 9) rfl (g0+1+1) (refT 0) rfl rfl 56 (refT 0) lr (zad _) rfl (zav _) ?_
  refine hK.out _ _ (by rw [setRow_other _ _ _ _ (by omega)];exact lu) (fun hS=>?_)
  clear hK K
  refine' yk 5  hS ?_
  refine wpAnyH_done (by kernel_rfl) ?_ _
  refine NoPanic.normal ?_
  clear hS
  have HBx:=yh (zab (g:=g0+1+1) (cs:=refT 0) (HB0.out.drew) (by have:=HG0.out;omega))
  have lr2:(W0.drew.setRow (g0+1+1) (refT 0)).heap[g0+1+1]?=some (.cells (refT 0) 56 (0,0)):=setRow_heap _ _ _ _ _ _ lr
  go_wp2_with fail
  (try simp only [Exit.inBlock,Exit.then])
  refine bodyPost_ret (zaw rfl _ _ (g0+1+1) _ (refT 0) _ _ (.bool b1) rfl rfl lr2 Tryz.underlying56 rfl (zad _)) rfl ?_
  exact ⟨by rw [show ratN u v=0 from if_pos HV0.out,show fineN u v=b1 by rw [← HBB.out];exact if_pos HV0.out],HBx.out⟩
 ·have HV0:=yh h0
  clear h0
  go_upto_region 3 with (first | (refine yi l1 Tryz.underlying56 (zad _) ?_) | (refine zaS (o:=⟨some 8,_,_,_,_,_⟩) rfl (.bool false) (za2 rfl rfl rfl guardR (eqRefF HV.out (show 0<PP by decide) HV0.out _)) ?_))
  refine wp_region_noPanic ?_
  refine zag (S:=fun W=>Below W0.heap.size W0 W) 7 (by kernel_rfl) ⟨by kernel_rfl,by kernel_rfl,by kernel_rfl,by kernel_rfl⟩ (by exact (Below.refl _ _).drew) (fun hT inv hS=>?_)
  refine' yT 0 hT inv hS (fun inv=>?_) (hy:=fun W hSW=>zac rfl rfl (HR0.out.below hSW).tail.tail.head Tryz.underlying56 rfl (zad _))
  refine' yT 1 hT inv hS (fun inv=>?_) (hy:=fun W hSW=>zac rfl rfl (HR0.out.below hSW).tail.head Tryz.underlying56 rfl (zad _))
  refine xT 2 inv (fun K hK=>?_)
  go_simp
  obtain ⟨n2,Hn2,HLn2⟩:=ym (K:=PP) (invN v) (invN_lt _)
  have kq3:=fun W:World=>(rinvN HV.out) W
  rw [Hn2.out] at kq3
  have Kq3:=yh kq3
  clear kq3
  with_reducible refine (Kq3.out _).mono ?_
  rintro e vq3 ⟨rfl,hbq3⟩
  have kbq3:=zaa hS hbq3
  clear hS hbq3
  refine hK.out _ _ (by exact kbq3) (fun inv hS=>?_)
  clear hK K
  refine xT 3 inv (fun K hK=>?_)
  go_simp
  obtain ⟨n4,Hn4,HLn4⟩:=ym (K:=PP) ((u*n2) % PP) (Nat.mod_lt _ (by decide))
  have kq5:=fun W:World=>(rmulN HU.out HLn2.out) W
  rw [Hn4.out] at kq5
  have Kq5:=yh kq5
  clear kq5
  with_reducible refine (Kq5.out _).mono ?_
  rintro e vq5 ⟨rfl,hbq5⟩
  have kbq5:=zaa kbq3 hbq5
  clear hS hbq5
  refine hK.out _ _ (by exact kbq5) (fun inv hS=>?_)
  clear hK K
  refine xT 4 inv (fun K hK=>?_)
  go_simp
  obtain ⟨n6,Hn6,HLn6⟩:=ym (K:=PP) (rootN n4) (rootN_lt _)
  obtain ⟨b7,Hb7⟩:=yx (α:=Bool) (isN n4)
  have kq8:=fun W:World=>(rsqrtN HLn4.out) W
  rw [Hn6.out,Hb7.out] at kq8
  have Kq8:=yh kq8
  clear kq8
  with_reducible refine (Kq8.out _).mono ?_
  rintro e vq8 ⟨rfl,hbq8⟩
  have kbq8:=zaa kbq5 hbq8
  clear hS hbq8
  refine hK.out _ _ (by exact kbq8) (fun inv hS=>?_)
  clear hK K
  refine' yT 5 hT inv hS (fun inv=>?_)
  refine' yT 6 hT inv hS (fun inv=>?_)
  refine zaN (by kernel_rfl) ?_
  simp only [List.drop_succ_cons,List.drop_zero]
  clear hS
  (try simp only [Act.put])
  have HRq9:=yh (HR0.out.below kbq8)
  have HBq9:=yh (zaa HB0.out kbq8)
  have lsq10:=HRq9.out.head
  have HRq10:Hid (RowsW (vq8.setRow (g0+1+1) (refT n6)) [((g0+1+1),(refT n6),56),((g0+1),(refT v),56),(g0,(refT u),56)]):=yh ⟨setRow_heap _ _ _ _ _ _ lsq10,(by rw [setRow_other _ _ _ _ (by omega)];exact HRq9.out.tail.head),(by rw [setRow_other _ _ _ _ (by omega)];exact HRq9.out.tail.tail.head),trivial⟩
  have HBq10:=yh (zab (g:=(g0+1+1)) (cs:=(refT n6)) HBq9.out (by have:=HG0.out;omega))
  go_wp2_with (refine yj (refT n6) lsq10 (zad _) (zat _ _) (zav _) ?_)
  obtain ⟨Wq10,hWq10⟩:∃ W,vq8.setRow (g0+1+1) (refT n6)=W:=⟨_,rfl⟩
  rw [hWq10] at HRq10 HBq10
  (try rw [hWq10])
  clear hWq10 lsq10
  refine NoPanic.normal ?_
  go_wp2_with fail
  (try simp only [Exit.inBlock,Exit.then])
  refine bodyPost_ret (zaw rfl _ _ (g0+1+1) _ (refT n6) _ _ (.bool b7) rfl rfl HRq10.out.head Tryz.underlying56 rfl (zad _)) rfl ?_
  exact ⟨by rw [show ratN u v=n6 by rw [← Hn6.out,← Hn4.out,← Hn2.out];exact if_neg HV0.out,show fineN u v=b7 by rw [← Hb7.out,← Hn4.out,← Hn2.out];exact if_neg HV0.out],HBq10.out⟩
end Go.Proofs.YtkgodlcnoenmbaaGreat
namespace Go.Proofs.YtkgodlcnoenmbaaGreat
open Go.RowKit
set_option linter.unusedVariables false
set_option maxRecDepth 100000
set_option maxHeartbeats 6400000
theorem redgeN  (w:World):Calls Tryz.prog 68 #[] w (RetV w (.agg (refT edN))):=by
 have hzR:=za6
 have hz32:=zao
 have hzP:=zbd
 have HR0:=yh ((RowsW.nil w).box (refT 0) 56)
 have HB0:=yh (zaf (Below.refl w.heap.size w) (refT 0) 56)
 go_enter Tryz.func68,Tryz.ntmps68
 go_wp2_with fail
 obtain ⟨W0,hW0⟩:∃ W,(w.alloc (.cells (refT 0) 56))=W:=⟨_,rfl⟩
 obtain ⟨g0,hg0⟩:∃ g,w.heap.size=g:=⟨_,rfl⟩
 rw [hW0] at HR0 HB0
 rw [hg0] at HR0
 rw [hW0,hg0]
 have HG0:=yh hg0
 clear hW0 hg0
 have s1_121665:∀ W:World,Calls Tryz.prog 72 #[.int .u64 121665] W (RetV W (.agg (refT 121665))):=fun W=>rsmallN 121665 (by decide) W
 with_reducible refine (s1_121665 _).mono ?_
 rintro e vq1 ⟨rfl,hbq1⟩
 have HRq1:=yh (HR0.out.below hbq1)
 have HBq1:=yh (zaa HB0.out hbq1)
 clear hbq1
 go_wp2_with fail
 obtain ⟨n2,Hn2,HLn2⟩:=ym (K:=PP) ((PP-121665) % PP) (Nat.mod_lt _ (by decide))
 have kq3:=fun W:World=>(rnegN (show 121665<PP by decide)) W
 rw [Hn2.out] at kq3
 have Kq3:=yh kq3
 clear kq3
 with_reducible refine (Kq3.out _).mono ?_
 rintro e vq3 ⟨rfl,hbq3⟩
 have HRq3:=yh (HRq1.out.below hbq3)
 have HBq3:=yh (zaa HBq1.out hbq3)
 clear hbq3
 go_wp2_with fail
 have s3_121666:∀ W:World,Calls Tryz.prog 72 #[.int .u64 121666] W (RetV W (.agg (refT 121666))):=fun W=>rsmallN 121666 (by decide) W
 with_reducible refine (s3_121666 _).mono ?_
 rintro e vq4 ⟨rfl,hbq4⟩
 have HRq4:=yh (HRq3.out.below hbq4)
 have HBq4:=yh (zaa HBq3.out hbq4)
 clear hbq4
 go_wp2_with fail
 obtain ⟨n5,Hn5,HLn5⟩:=ym (K:=PP) (invN 121666) (invN_lt _)
 have kq6:=fun W:World=>(rinvN (show 121666<PP by decide)) W
 rw [Hn5.out] at kq6
 have Kq6:=yh kq6
 clear kq6
 with_reducible refine (Kq6.out _).mono ?_
 rintro e vq6 ⟨rfl,hbq6⟩
 have HRq6:=yh (HRq4.out.below hbq6)
 have HBq6:=yh (zaa HBq4.out hbq6)
 clear hbq6
 go_wp2_with fail
 obtain ⟨n7,Hn7,HLn7⟩:=ym (K:=PP) ((n2*n5) % PP) (Nat.mod_lt _ (by decide))
 have kq8:=fun W:World=>(rmulN HLn2.out HLn5.out) W
 rw [Hn7.out] at kq8
 have Kq8:=yh kq8
 clear kq8
 with_reducible refine (Kq8.out _).mono ?_
 rintro e vq8 ⟨rfl,hbq8⟩
 have HRq8:=yh (HRq6.out.below hbq8)
 have HBq8:=yh (zaa HBq6.out hbq8)
 clear hbq8
 have lsq9:=HRq8.out.head
 have HRq9:Hid (RowsW (vq8.setRow g0 (refT n7)) [(g0,(refT n7),56)]):=yh ⟨setRow_heap _ _ _ _ _ _ lsq9,trivial⟩
 have HBq9:=yh (zab (g:=g0) (cs:=(refT n7)) HBq8.out (by have:=HG0.out;omega))
 go_wp2_with (refine yj (refT n7) lsq9 (zad _) (zat _ _) (zav _) ?_)
 obtain ⟨Wq9,hWq9⟩:∃ W,vq8.setRow g0 (refT n7)=W:=⟨_,rfl⟩
 rw [hWq9] at HRq9 HBq9
 (try rw [hWq9])
 clear hWq9 lsq9
 (try simp only [Exit.inBlock,Exit.then])
 refine bodyPost_ret (results_cell_row rfl _ _ g0 _ (refT n7) _ _ rfl HRq9.out.head Tryz.underlying56 rfl (zad _)) rfl ?_
 exact ⟨by rw [show edN=n7 by rw [← edN_is,Hn2.out,Hn5.out,Hn7.out]],HBq9.out⟩
theorem rxofN {x:Nat} (hx:x<PP) (w:World):Calls Tryz.prog 73 #[.agg (refT x)] w (RetV w (.tuple #[.agg (refT (ratN (upN x) (dnN x))),.bool (fineN (upN x) (dnN x))])):=by
 have HXL:=yh hx
 clear hx
 have hzR:=za6
 have hz32:=zao
 have hzP:=zbd
 have HR0:=yh (((RowsW.nil w).box (refT x) 56).box (refT 0) 56)
 have HB0:=yh (zaf (zaf (Below.refl w.heap.size w) (refT x) 56) (refT 0) 56)
 rw [World.size_alloc] at HR0
 go_enter Tryz.func73,Tryz.ntmps73
 go_upto_region 1 with fail
 obtain ⟨W0,hW0⟩:∃ W,((w.alloc (.cells (refT x) 56)).alloc (.cells (refT 0) 56))=W:=⟨_,rfl⟩
 obtain ⟨g0,hg0⟩:∃ g,w.heap.size=g:=⟨_,rfl⟩
 rw [hW0] at HR0 HB0
 rw [hg0] at HR0
 rw [hW0,hg0]
 have HG0:=yh hg0
 clear hW0 hg0
 have l1:=HR0.out.tail.head
 have l2:=HR0.out.tail.head
 go_wp2_with (first
   | (refine yi l1 Tryz.underlying56 (zad _) ?_)
   | (refine yi l2 Tryz.underlying56 (zad _) ?_))
 obtain ⟨n3,Hn3,HLn3⟩:=ym (K:=PP) ((x*x) % PP) (Nat.mod_lt _ (by decide))
 have kq4:=fun W:World=>(rmulN HXL.out HXL.out) W
 rw [Hn3.out] at kq4
 have Kq4:=yh kq4
 clear kq4
 with_reducible refine (Kq4.out _).mono ?_
 rintro e vq4 ⟨rfl,hbq4⟩
 have HRq4:=yh (HR0.out.below hbq4)
 have HBq4:=yh (zaa HB0.out hbq4)
 clear hbq4
 have h0q5:(vq4.alloc (.cells (refT 0) 56)).heap[vq4.heap.size]?=some (.cells (refT 0) 56 (0,0)):=heap_alloc_new _ _
 have HRq5:=yh (HRq4.out.new (refT 0) (refT n3) 56)
 have HBq5:=yh (zan HBq4.out (refT 0) (refT n3) 56)
 have HNq5:=yh HRq4.out.ne
 have HGq5:=yh HBq4.out.size
 go_upto_region 2 with (refine yj (refT n3) h0q5 (zad _) (zat _ _) (zav _) ?_)
 obtain ⟨Wq5,hWq5⟩:∃ W,(vq4.alloc (.cells (refT 0) 56)).setRow vq4.heap.size (refT n3)=W:=⟨_,rfl⟩
 obtain ⟨gq5,hgq5⟩:∃ g,vq4.heap.size=g:=⟨_,rfl⟩
 rw [hWq5,hgq5] at HRq5
 rw [hWq5] at HBq5
 rw [hgq5] at HNq5 HGq5
 rw [hWq5,hgq5]
 clear hWq5 hgq5 h0q5
 have NEq5_0:Hid (g0≠gq5):=yh (HNq5.out (g0,(refT x),56) (by simp))
 have NEq5_1:Hid ((g0+1)≠gq5):=yh (HNq5.out ((g0+1),(refT 0),56) (by simp))
 refine wp_region_noPanic ?_
 refine zag (S:=fun W=>Below Wq5.heap.size Wq5 W) 11 (by kernel_rfl) ⟨by kernel_rfl,by kernel_rfl,by kernel_rfl,by kernel_rfl⟩ (by exact (Below.refl _ _).drew) (fun hT inv hS=>?_)
 refine' yT 0 hT inv hS (fun inv=>?_) (hy:=fun W hSW=>zac rfl rfl (HRq5.out.below hSW).head Tryz.underlying56 rfl (zad _))
 refine' yT 4 hT inv hS (fun inv=>?_) (hy:=fun W hSW=>zac rfl rfl (HRq5.out.below hSW).head Tryz.underlying56 rfl (zad _))
 refine xT 1 inv (fun K hK=>?_)
 go_simp
 have s9_1:∀ W:World,Calls Tryz.prog 72 #[.int .u64 1] W (RetV W (.agg (refT 1))):=fun W=>rsmallN 1 (by decide) W
 with_reducible refine (s9_1 _).mono ?_
 rintro e vq6 ⟨rfl,hbq6⟩
 have kbq6:=zaa hS hbq6
 clear hS hbq6
 refine hK.out _ _ (by exact kbq6) (fun inv hS=>?_)
 clear hK K
 refine xT 2 inv (fun K hK=>?_)
 go_simp
 obtain ⟨n7,Hn7,HLn7⟩:=ym (K:=PP) ((n3+(PP-1)) % PP) (Nat.mod_lt _ (by decide))
 have kq8:=fun W:World=>(rsubN HLn3.out (show 1<PP by decide)) W
 rw [Hn7.out] at kq8
 have Kq8:=yh kq8
 clear kq8
 with_reducible refine (Kq8.out _).mono ?_
 rintro e vq8 ⟨rfl,hbq8⟩
 have kbq8:=zaa kbq6 hbq8
 clear hS hbq8
 refine hK.out _ _ (by exact kbq8) (fun inv hS=>?_)
 clear hK K
 refine xT 3 inv (fun K hK=>?_)
 go_simp
 with_reducible refine (redgeN _).mono ?_
 rintro e vq9 ⟨rfl,hbq9⟩
 have kbq9:=zaa kbq8 hbq9
 clear hS hbq9
 refine hK.out _ _ (by exact kbq9) (fun inv hS=>?_)
 clear hK K
 refine xT 5 inv (fun K hK=>?_)
 go_simp
 obtain ⟨n10,Hn10,HLn10⟩:=ym (K:=PP) ((edN*n3) % PP) (Nat.mod_lt _ (by decide))
 have kq11:=fun W:World=>(rmulN edN_lt HLn3.out) W
 rw [Hn10.out] at kq11
 have Kq11:=yh kq11
 clear kq11
 with_reducible refine (Kq11.out _).mono ?_
 rintro e vq11 ⟨rfl,hbq11⟩
 have kbq11:=zaa kbq9 hbq11
 clear hS hbq11
 refine hK.out _ _ (by exact kbq11) (fun inv hS=>?_)
 clear hK K
 refine xT 6 inv (fun K hK=>?_)
 go_simp
 have s14_1:∀ W:World,Calls Tryz.prog 72 #[.int .u64 1] W (RetV W (.agg (refT 1))):=fun W=>rsmallN 1 (by decide) W
 with_reducible refine (s14_1 _).mono ?_
 rintro e vq12 ⟨rfl,hbq12⟩
 have kbq12:=zaa kbq11 hbq12
 clear hS hbq12
 refine hK.out _ _ (by exact kbq12) (fun inv hS=>?_)
 clear hK K
 refine xT 7 inv (fun K hK=>?_)
 go_simp
 obtain ⟨n13,Hn13,HLn13⟩:=ym (K:=PP) ((n10+1) % PP) (Nat.mod_lt _ (by decide))
 have kq14:=fun W:World=>(raddN HLn10.out (show 1<PP by decide)) W
 rw [Hn13.out] at kq14
 have Kq14:=yh kq14
 clear kq14
 with_reducible refine (Kq14.out _).mono ?_
 rintro e vq14 ⟨rfl,hbq14⟩
 have kbq14:=zaa kbq12 hbq14
 clear hS hbq14
 refine hK.out _ _ (by exact kbq14) (fun inv hS=>?_)
 clear hK K
 refine xT 8 inv (fun K hK=>?_)
 go_simp
 obtain ⟨n15,Hn15,HLn15⟩:=ym (K:=PP) (ratN n7 n13) (ratN_lt _ _)
 obtain ⟨b16,Hb16⟩:=yx (α:=Bool) (fineN n7 n13)
 have kq17:=fun W:World=>(rratioN HLn7.out HLn13.out) W
 rw [Hn15.out,Hb16.out] at kq17
 have Kq17:=yh kq17
 clear kq17
 with_reducible refine (Kq17.out _).mono ?_
 rintro e vq17 ⟨rfl,hbq17⟩
 have kbq17:=zaa kbq14 hbq17
 clear hS hbq17
 refine hK.out _ _ (by exact kbq17) (fun inv hS=>?_)
 clear hK K
 refine' yT 9 hT inv hS (fun inv=>?_)
 refine' yT 10 hT inv hS (fun inv=>?_)
 refine zaN (by kernel_rfl) ?_
 simp only [List.drop_succ_cons,List.drop_zero]
 clear hS
 (try simp only [Act.put])
 have HRq18:=yh (HRq5.out.below kbq17)
 have HBq18:=yh (zaa HBq5.out kbq17)
 have lsq19:=HRq18.out.tail.head
 have HRq19:Hid (RowsW (vq17.setRow (g0+1) (refT n15)) [(gq5,(refT n3),56),((g0+1),(refT n15),56),(g0,(refT x),56)]):=yh ⟨(by rw [setRow_other _ _ _ _ (Ne.symm NEq5_1.out)];exact HRq18.out.head),setRow_heap _ _ _ _ _ _ lsq19,(by rw [setRow_other _ _ _ _ (by omega)];exact HRq18.out.tail.tail.head),trivial⟩
 have HBq19:=yh (zab (g:=(g0+1)) (cs:=(refT n15)) HBq18.out (by have:=HG0.out;omega))
 go_wp2_with (refine yj (refT n15) lsq19 (zad _) (zat _ _) (zav _) ?_)
 obtain ⟨Wq19,hWq19⟩:∃ W,vq17.setRow (g0+1) (refT n15)=W:=⟨_,rfl⟩
 rw [hWq19] at HRq19 HBq19
 (try rw [hWq19])
 clear hWq19 lsq19
 refine NoPanic.normal ?_
 go_wp2_with fail
 (try simp only [Exit.inBlock,Exit.then])
 refine bodyPost_ret (zaw rfl _ _ (g0+1) _ (refT n15) _ _ (.bool b16) rfl rfl HRq19.out.tail.head Tryz.underlying56 rfl (zad _)) rfl ?_
 have eu:upN x=n7:=by unfold upN;rw [Hn3.out,Hn7.out]
 have ed:dnN x=n13:=by unfold dnN;rw [Hn3.out,Hn10.out,Hn13.out]
 exact ⟨by rw [eu,ed,Hn15.out,Hb16.out],HBq19.out⟩
theorem rofN {x y:Nat} (hx:x<PP) (hy:y<PP) (w:World):Calls Tryz.prog 74 #[.agg (refT x),.agg (refT y)] w (RetV w (.agg (refP x y 1 ((x*y) % PP)))):=by
 have HXL:=yh hx
 have HYL:=yh hy
 clear hx hy
 have hzR:=za6
 have hz32:=zao
 have hzP:=zbd
 have HR0:=yh ((((RowsW.nil w).box (refT x) 56).box (refT y) 56).box (refP 0 0 0 0) 58)
 have HB0:=yh (zaf (zaf (zaf (Below.refl w.heap.size w) (refT x) 56) (refT y) 56) (refP 0 0 0 0) 58)
 rw [World.size_alloc] at HR0
 rw [World.size_alloc] at HR0
 go_enter Tryz.func74,Tryz.ntmps74
 go_upto_region 1 with fail
 obtain ⟨W0,hW0⟩:∃ W,(((w.alloc (.cells (refT x) 56)).alloc (.cells (refT y) 56)).alloc (.cells (refP 0 0 0 0) 58))=W:=⟨_,rfl⟩
 obtain ⟨g0,hg0⟩:∃ g,w.heap.size=g:=⟨_,rfl⟩
 rw [hW0] at HR0 HB0
 rw [hg0] at HR0
 rw [hW0,hg0]
 have HG0:=yh hg0
 clear hW0 hg0
 refine wp_region_noPanic ?_
 refine zag (S:=fun W=>Below W0.heap.size W0 W) 7 (by kernel_rfl) ⟨by kernel_rfl,by kernel_rfl,by kernel_rfl,by kernel_rfl⟩ (by exact (Below.refl _ _).drew) (fun hT inv hS=>?_)
 refine' yT 0 hT inv hS (fun inv=>?_) (hy:=fun W hSW=>zac rfl rfl (HR0.out.below hSW).tail.tail.head Tryz.underlying56 rfl (zad _))
 refine' yT 1 hT inv hS (fun inv=>?_) (hy:=fun W hSW=>zac rfl rfl (HR0.out.below hSW).tail.head Tryz.underlying56 rfl (zad _))
 refine' yT 3 hT inv hS (fun inv=>?_) (hy:=fun W hSW=>zac rfl rfl (HR0.out.below hSW).tail.tail.head Tryz.underlying56 rfl (zad _))
 refine' yT 4 hT inv hS (fun inv=>?_) (hy:=fun W hSW=>zac rfl rfl (HR0.out.below hSW).tail.head Tryz.underlying56 rfl (zad _))
 refine xT 2 inv (fun K hK=>?_)
 go_simp
 have s7_1:∀ W:World,Calls Tryz.prog 72 #[.int .u64 1] W (RetV W (.agg (refT 1))):=fun W=>rsmallN 1 (by decide) W
 with_reducible refine (s7_1 _).mono ?_
 rintro e vq1 ⟨rfl,hbq1⟩
 have kbq1:=zaa hS hbq1
 clear hS hbq1
 refine hK.out _ _ (by exact kbq1) (fun inv hS=>?_)
 clear hK K
 refine xT 5 inv (fun K hK=>?_)
 go_simp
 obtain ⟨n2,Hn2,HLn2⟩:=ym (K:=PP) ((x*y) % PP) (Nat.mod_lt _ (by decide))
 have kq3:=fun W:World=>(rmulN HXL.out HYL.out) W
 rw [Hn2.out] at kq3
 have Kq3:=yh kq3
 clear kq3
 with_reducible refine (Kq3.out _).mono ?_
 rintro e vq3 ⟨rfl,hbq3⟩
 have kbq3:=zaa kbq1 hbq3
 clear hS hbq3
 refine hK.out _ _ (by exact kbq3) (fun inv hS=>?_)
 clear hK K
 refine' yT 6 hT inv hS (fun inv=>?_) (hy:=fun W hSW=>run_build4 rfl rfl rfl rfl rfl)
 refine zaN (by kernel_rfl) ?_
 simp only [List.drop_succ_cons,List.drop_zero]
 clear hS
 (try simp only [Act.put])
 have HRq4:=yh (HR0.out.below kbq3)
 have HBq4:=yh (zaa HB0.out kbq3)
 have lsq5:=HRq4.out.head
 have HRq5:Hid (RowsW (vq3.setRow (g0+1+1) (refP x y 1 n2)) [((g0+1+1),(refP x y 1 n2),58),((g0+1),(refT y),56),(g0,(refT x),56)]):=yh ⟨setRow_heap _ _ _ _ _ _ lsq5,(by rw [setRow_other _ _ _ _ (by omega)];exact HRq4.out.tail.head),(by rw [setRow_other _ _ _ _ (by omega)];exact HRq4.out.tail.tail.head),trivial⟩
 have HBq5:=yh (zab (g:=(g0+1+1)) (cs:=(refP x y 1 n2)) HBq4.out (by have:=HG0.out;omega))
 go_wp2_with (refine yj (refP x y 1 n2) lsq5 (zaC _ _ _ _) (zaW _ _ _ _ _ _ _ _) (zbj _ _ _ _) ?_)
 obtain ⟨Wq5,hWq5⟩:∃ W,vq3.setRow (g0+1+1) (refP x y 1 n2)=W:=⟨_,rfl⟩
 rw [hWq5] at HRq5 HBq5
 (try rw [hWq5])
 clear hWq5 lsq5
 refine NoPanic.normal ?_
 go_wp2_with fail
 (try simp only [Exit.inBlock,Exit.then])
 refine bodyPost_ret (results_cell_row rfl _ _ (g0+1+1) _ (refP x y 1 n2) _ _ rfl HRq5.out.head Tryz.underlying58 rfl (zaC _ _ _ _)) rfl ?_
 exact ⟨by rw [Hn2.out],HBq5.out⟩
theorem rzeroN  (w:World):Calls Tryz.prog 69 #[] w (RetV w (.agg (refP 0 1 1 0))):=by
 have hzR:=za6
 have hz32:=zao
 have hzP:=zbd
 have HR0:=yh ((RowsW.nil w).box (refP 0 0 0 0) 58)
 have HB0:=yh (zaf (Below.refl w.heap.size w) (refP 0 0 0 0) 58)
 go_enter Tryz.func69,Tryz.ntmps69
 go_wp2_with fail
 obtain ⟨W0,hW0⟩:∃ W,(w.alloc (.cells (refP 0 0 0 0) 58))=W:=⟨_,rfl⟩
 obtain ⟨g0,hg0⟩:∃ g,w.heap.size=g:=⟨_,rfl⟩
 rw [hW0] at HR0 HB0
 rw [hg0] at HR0
 rw [hW0,hg0]
 have HG0:=yh hg0
 clear hW0 hg0
 have s1_1:∀ W:World,Calls Tryz.prog 72 #[.int .u64 1] W (RetV W (.agg (refT 1))):=fun W=>rsmallN 1 (by decide) W
 with_reducible refine (s1_1 _).mono ?_
 rintro e vq1 ⟨rfl,hbq1⟩
 have HRq1:=yh (HR0.out.below hbq1)
 have HBq1:=yh (zaa HB0.out hbq1)
 clear hbq1
 go_wp2_with fail
 have s2_1:∀ W:World,Calls Tryz.prog 72 #[.int .u64 1] W (RetV W (.agg (refT 1))):=fun W=>rsmallN 1 (by decide) W
 with_reducible refine (s2_1 _).mono ?_
 rintro e vq2 ⟨rfl,hbq2⟩
 have HRq2:=yh (HRq1.out.below hbq2)
 have HBq2:=yh (zaa HBq1.out hbq2)
 clear hbq2
 have lsq3:=HRq2.out.head
 have HRq3:Hid (RowsW (vq2.setRow g0 (refP 0 1 1 0)) [(g0,(refP 0 1 1 0),58)]):=yh ⟨setRow_heap _ _ _ _ _ _ lsq3,trivial⟩
 have HBq3:=yh (zab (g:=g0) (cs:=(refP 0 1 1 0)) HBq2.out (by have:=HG0.out;omega))
 go_wp2_with (first
   | (refine zaj (o:=⟨some 3,_,_,_,_,_⟩) rfl (.agg (refP 0 1 1 0)) (run_build2 rfl rfl rfl) ?_)
   | (refine yj (refP 0 1 1 0) lsq3 (zaC _ _ _ _) (zaW _ _ _ _ _ _ _ _) (zbj _ _ _ _) ?_))
 obtain ⟨Wq3,hWq3⟩:∃ W,vq2.setRow g0 (refP 0 1 1 0)=W:=⟨_,rfl⟩
 rw [hWq3] at HRq3 HBq3
 (try rw [hWq3])
 clear hWq3 lsq3
 (try simp only [Exit.inBlock,Exit.then])
 refine bodyPost_ret (results_cell_row rfl _ _ g0 _ (refP 0 1 1 0) _ _ rfl HRq3.out.head Tryz.underlying58 rfl (zaC _ _ _ _)) rfl ?_
 exact ⟨rfl,HBq3.out⟩
theorem rbaseN  (w:World):Calls Tryz.prog 33 #[] w (RetPt RQ w F25519.base):=by
 have hzR:=za6
 have hz32:=zao
 have hzP:=zbd
 have HR0:=yh ((RowsW.nil w).box (refP 0 0 0 0) 58)
 have HB0:=yh (zaf (Below.refl w.heap.size w) (refP 0 0 0 0) 58)
 go_enter Tryz.func33,Tryz.ntmps33
 go_wp2_with fail
 obtain ⟨W0,hW0⟩:∃ W,(w.alloc (.cells (refP 0 0 0 0) 58))=W:=⟨_,rfl⟩
 obtain ⟨g0,hg0⟩:∃ g,w.heap.size=g:=⟨_,rfl⟩
 rw [hW0] at HR0 HB0
 rw [hg0] at HR0
 rw [hW0,hg0]
 have HG0:=yh hg0
 clear hW0 hg0
 have s4_4:∀ W:World,Calls Tryz.prog 72 #[.int .u64 4] W (RetV W (.agg (refT 4))):=fun W=>rsmallN 4 (by decide) W
 with_reducible refine (s4_4 _).mono ?_
 rintro e vq1 ⟨rfl,hbq1⟩
 have HRq1:=yh (HR0.out.below hbq1)
 have HBq1:=yh (zaa HB0.out hbq1)
 clear hbq1
 go_wp2_with fail
 have s5_5:∀ W:World,Calls Tryz.prog 72 #[.int .u64 5] W (RetV W (.agg (refT 5))):=fun W=>rsmallN 5 (by decide) W
 with_reducible refine (s5_5 _).mono ?_
 rintro e vq2 ⟨rfl,hbq2⟩
 have HRq2:=yh (HRq1.out.below hbq2)
 have HBq2:=yh (zaa HBq1.out hbq2)
 clear hbq2
 go_wp2_with fail
 obtain ⟨n3,Hn3,HLn3⟩:=ym (K:=PP) (invN 5) (invN_lt _)
 have kq4:=fun W:World=>(rinvN (show 5<PP by decide)) W
 rw [Hn3.out] at kq4
 have Kq4:=yh kq4
 clear kq4
 with_reducible refine (Kq4.out _).mono ?_
 rintro e vq4 ⟨rfl,hbq4⟩
 have HRq4:=yh (HRq2.out.below hbq4)
 have HBq4:=yh (zaa HBq2.out hbq4)
 clear hbq4
 go_wp2_with fail
 obtain ⟨n5,Hn5,HLn5⟩:=ym (K:=PP) ((4*n3) % PP) (Nat.mod_lt _ (by decide))
 have kq6:=fun W:World=>(rmulN (show 4<PP by decide) HLn3.out) W
 rw [Hn5.out] at kq6
 have Kq6:=yh kq6
 clear kq6
 with_reducible refine (Kq6.out _).mono ?_
 rintro e vq6 ⟨rfl,hbq6⟩
 have HRq6:=yh (HRq4.out.below hbq6)
 have HBq6:=yh (zaa HBq4.out hbq6)
 clear hbq6
 have h0q7:(vq6.alloc (.cells (refT 0) 56)).heap[vq6.heap.size]?=some (.cells (refT 0) 56 (0,0)):=heap_alloc_new _ _
 have HRq7:=yh (HRq6.out.new (refT 0) (refT n5) 56)
 have HBq7:=yh (zan HBq6.out (refT 0) (refT n5) 56)
 have HNq7:=yh HRq6.out.ne
 have HGq7:=yh HBq6.out.size
 go_upto_region 2 with (refine yj (refT n5) h0q7 (zad _) (zat _ _) (zav _) ?_)
 obtain ⟨Wq7,hWq7⟩:∃ W,(vq6.alloc (.cells (refT 0) 56)).setRow vq6.heap.size (refT n5)=W:=⟨_,rfl⟩
 obtain ⟨gq7,hgq7⟩:∃ g,vq6.heap.size=g:=⟨_,rfl⟩
 rw [hWq7,hgq7] at HRq7
 rw [hWq7] at HBq7
 rw [hgq7] at HNq7 HGq7
 rw [hWq7,hgq7]
 clear hWq7 hgq7 h0q7
 have NEq7_0:Hid (g0≠gq7):=yh (HNq7.out (g0,(refP 0 0 0 0),58) (by simp))
 have HBY:Hid (n5=F25519.bY):=yh (by rw [← Hn5.out,← Hn3.out];exact (byG_is _).trans base_y_is)
 have l8:=HRq7.out.head
 go_wp2_with (refine yi l8 Tryz.underlying56 (zad _) ?_)
 obtain ⟨n9,Hn9,HLn9⟩:=ym (K:=PP) (ratN (upN n5) (dnN n5)) (ratN_lt _ _)
 obtain ⟨b10,Hb10⟩:=yx (α:=Bool) (fineN (upN n5) (dnN n5))
 have kq11:=fun W:World=>(rxofN HLn5.out) W
 rw [Hn9.out,Hb10.out] at kq11
 have Kq11:=yh kq11
 clear kq11
 with_reducible refine (Kq11.out _).mono ?_
 rintro e vq11 ⟨rfl,hbq11⟩
 have HRq11:=yh (HRq7.out.below hbq11)
 have HBq11:=yh (zaa HBq7.out hbq11)
 clear hbq11
 have h0q12:(vq11.alloc (.cells (refT 0) 56)).heap[vq11.heap.size]?=some (.cells (refT 0) 56 (0,0)):=heap_alloc_new _ _
 have HRq12:=yh (HRq11.out.new (refT 0) (refT n9) 56)
 have HBq12:=yh (zan HBq11.out (refT 0) (refT n9) 56)
 have HNq12:=yh HRq11.out.ne
 have HGq12:=yh HBq11.out.size
 go_upto_region 3 with (refine yj (refT n9) h0q12 (zad _) (zat _ _) (zav _) ?_)
 obtain ⟨Wq12,hWq12⟩:∃ W,(vq11.alloc (.cells (refT 0) 56)).setRow vq11.heap.size (refT n9)=W:=⟨_,rfl⟩
 obtain ⟨gq12,hgq12⟩:∃ g,vq11.heap.size=g:=⟨_,rfl⟩
 rw [hWq12,hgq12] at HRq12
 rw [hWq12] at HBq12
 rw [hgq12] at HNq12 HGq12
 rw [hWq12,hgq12]
 clear hWq12 hgq12 h0q12
 have NEq12_0:Hid (g0≠gq12):=yh (HNq12.out (g0,(refP 0 0 0 0),58) (by simp))
 have NEq12_1:Hid (gq7≠gq12):=yh (HNq12.out (gq7,(refT n5),56) (by simp))
 have l13:=HRq12.out.head
 have l14:=HRq12.out.tail.head
 go_wp2_with (first
   | (refine yi l13 Tryz.underlying56 (zad _) ?_)
   | (refine yi l14 Tryz.underlying56 (zad _) ?_))
 obtain ⟨n15,Hn15,HLn15⟩:=ym (K:=PP) ((n9*n5) % PP) (Nat.mod_lt _ (by decide))
 have kq16:=fun W:World=>(rofN HLn9.out HLn5.out) W
 rw [Hn15.out] at kq16
 have Kq16:=yh kq16
 clear kq16
 with_reducible refine (Kq16.out _).mono ?_
 rintro e vq16 ⟨rfl,hbq16⟩
 have HRq16:=yh (HRq12.out.below hbq16)
 have HBq16:=yh (zaa HBq12.out hbq16)
 clear hbq16
 have lsq17:=HRq16.out.tail.tail.head
 have HRq17:Hid (RowsW (vq16.setRow g0 (refP n9 n5 1 n15)) [(gq12,(refT n9),56),(gq7,(refT n5),56),(g0,(refP n9 n5 1 n15),58)]):=yh ⟨(by rw [setRow_other _ _ _ _ (Ne.symm NEq12_0.out)];exact HRq16.out.head),(by rw [setRow_other _ _ _ _ (Ne.symm NEq7_0.out)];exact HRq16.out.tail.head),setRow_heap _ _ _ _ _ _ lsq17,trivial⟩
 have HBq17:=yh (zab (g:=g0) (cs:=(refP n9 n5 1 n15)) HBq16.out (by have:=HG0.out;omega))
 go_wp2_with (refine yj (refP n9 n5 1 n15) lsq17 (zaC _ _ _ _) (zaW _ _ _ _ _ _ _ _) (zbj _ _ _ _) ?_)
 obtain ⟨Wq17,hWq17⟩:∃ W,vq16.setRow g0 (refP n9 n5 1 n15)=W:=⟨_,rfl⟩
 rw [hWq17] at HRq17 HBq17
 (try rw [hWq17])
 clear hWq17 lsq17
 (try simp only [Exit.inBlock,Exit.then])
 refine bodyPost_ret (results_cell_row rfl _ _ g0 _ (refP n9 n5 1 n15) _ _ rfl HRq17.out.tail.tail.head Tryz.underlying58 rfl (zaC _ _ _ _)) rfl ?_
 exact ⟨_,rfl,⟨_,_,_,_,rfl,by rw [← Hn15.out,show n9=F25519.bX by rw [← Hn9.out,HBY.out];exact base_root.2,HBY.out];exact base_co⟩,HBq17.out⟩
theorem zbD {c:Array Value} {p:PtD} (h:RQ c p):(Tryz.prog.info? 58).map (·.size)=some c.size:=by
 obtain ⟨X,Y,Z,T,rfl,_⟩:=h;exact zaC _ _ _ _
theorem rq_one {c:Array Value} {p:PtD} (h:RQ c p):c.all (·.oneCell')=true:=by
 obtain ⟨X,Y,Z,T,rfl,_⟩:=h;exact zbj _ _ _ _
theorem rq_size {c:Array Value} {p:PtD} (h:RQ c p) {X Y Z T:Nat}:(refP X Y Z T).size=c.size:=by
 obtain ⟨X',Y',Z',T',rfl,_⟩:=h;exact zaW _ _ _ _ _ _ _ _
theorem rplusN {X1 Y1 Z1 T1 X2 Y2 Z2 T2:Nat} {p q:PtD} (h1:Co X1 Y1 Z1 T1 p) (h2:Co X2 Y2 Z2 T2 q) (w:World):Calls Tryz.prog 70 #[.agg (refP X1 Y1 Z1 T1),.agg (refP X2 Y2 Z2 T2),.agg (refT ((edN+edN) % PP))] w (RetPt RQ w (padd p q)):=by
 have HC1:=yh h1
 clear h1
 have HC2:=yh h2
 clear h2
 obtain ⟨dd,hdd⟩:∃ y,(edN+edN) % PP=y:=⟨_,rfl⟩
 have HLdd:Hid (dd<PP):=yh (by rw [← hdd];exact zap _)
 rw [hdd]
 have HDD:=yh hdd
 clear hdd
 have hzR:=za6
 have hz32:=zao
 have hzP:=zbd
 have HR0:=yh (((((RowsW.nil w).box (refP X1 Y1 Z1 T1) 58).box (refP X2 Y2 Z2 T2) 58).box (refT dd) 56).box (refP 0 0 0 0) 58)
 have HB0:=yh (zaf (zaf (zaf (zaf (Below.refl w.heap.size w) (refP X1 Y1 Z1 T1) 58) (refP X2 Y2 Z2 T2) 58) (refT dd) 56) (refP 0 0 0 0) 58)
 rw [World.size_alloc] at HR0
 rw [World.size_alloc] at HR0
 rw [World.size_alloc] at HR0
 go_enter Tryz.func70,Tryz.ntmps70
 go_upto_region 1 with fail
 obtain ⟨W0,hW0⟩:∃ W,((((w.alloc (.cells (refP X1 Y1 Z1 T1) 58)).alloc (.cells (refP X2 Y2 Z2 T2) 58)).alloc (.cells (refT dd) 56)).alloc (.cells (refP 0 0 0 0) 58))=W:=⟨_,rfl⟩
 obtain ⟨g0,hg0⟩:∃ g,w.heap.size=g:=⟨_,rfl⟩
 rw [hW0] at HR0 HB0
 rw [hg0] at HR0
 rw [hW0,hg0]
 have HG0:=yh hg0
 clear hW0 hg0
 refine wp_region_noPanic ?_
 refine zal 11 7 56 (refT 0) (by kernel_rfl) (by kernel_rfl) ⟨by kernel_rfl,by kernel_rfl,hzR,fun _ _ _ h=>h⟩ (fun hA hS=>?_)
 refine' yD 0 hA hS ?_
 refine' yD 1 hA hS ?_ (hy:=fun W hSW=>zak rfl rfl (HR0.out.below hSW).tail.tail.tail.head Tryz.underlying56 rfl (zad Y1) (refP_1 _ _ _ _))
 refine' yD 2 hA hS ?_
 refine' yD 3 hA hS ?_ (hy:=fun W hSW=>zak rfl rfl (HR0.out.below hSW).tail.tail.tail.head Tryz.underlying56 rfl (zad X1) (refP_0 _ _ _ _))
 refine' yD 5 hA hS ?_
 refine' yD 6 hA hS ?_ (hy:=fun W hSW=>zak rfl rfl (HR0.out.below hSW).tail.tail.head Tryz.underlying56 rfl (zad Y2) (refP_1 _ _ _ _))
 refine' yD 7 hA hS ?_
 refine' yD 8 hA hS ?_ (hy:=fun W hSW=>zak rfl rfl (HR0.out.below hSW).tail.tail.head Tryz.underlying56 rfl (zad X2) (refP_0 _ _ _ _))
 refine xE 4 hA hS (fun oq2 Xq2 hS K hK=>?_)
 go_simp
 obtain ⟨n1,Hn1,HLn1⟩:=ym (K:=PP) ((Y1+(PP-X1)) % PP) (Nat.mod_lt _ (by decide))
 have kq2:=fun W:World=>(rsubN HC1.out.y HC1.out.x) W
 rw [Hn1.out] at kq2
 have Kq2:=yh kq2
 clear kq2
 with_reducible refine (Kq2.out _).mono ?_
 rintro e vq2 ⟨rfl,hbq2⟩
 refine hK.out _ _ hbq2 (fun hS=>?_)
 clear hK K hbq2
 refine xE 9 hA hS (fun oq4 Xq4 hS K hK=>?_)
 go_simp
 obtain ⟨n3,Hn3,HLn3⟩:=ym (K:=PP) ((Y2+(PP-X2)) % PP) (Nat.mod_lt _ (by decide))
 have kq4:=fun W:World=>(rsubN HC2.out.y HC2.out.x) W
 rw [Hn3.out] at kq4
 have Kq4:=yh kq4
 clear kq4
 with_reducible refine (Kq4.out _).mono ?_
 rintro e vq4 ⟨rfl,hbq4⟩
 refine hK.out _ _ hbq4 (fun hS=>?_)
 clear hK K hbq4
 refine xE 10 hA hS (fun oq6 Xq6 hS K hK=>?_)
 go_simp
 obtain ⟨n5,Hn5,HLn5⟩:=ym (K:=PP) ((n1*n3) % PP) (Nat.mod_lt _ (by decide))
 have kq6:=fun W:World=>(rmulN HLn1.out HLn3.out) W
 rw [Hn5.out] at kq6
 have Kq6:=yh kq6
 clear kq6
 with_reducible refine (Kq6.out _).mono ?_
 rintro e vq6 ⟨rfl,hbq6⟩
 refine hK.out _ _ hbq6 (fun hS=>?_)
 clear hK K hbq6
 refine' zaI 12 hA rfl (by kernel_rfl) (by kernel_rfl) (by kernel_rfl) hS (by kernel_rfl) rfl (by intro h;cases h) (zad _) (zat _ _) (zav _) ?_ ?_
 rotate_left 1
 ·intro g;simp only [List.set_cons_succ,List.set_cons_zero];rfl
 intro gq7 Wq7 hgq7 hbq7 hrowq7
 clear hA hS
 refine wpAnyH_done (by kernel_rfl) ?_ _
 refine NoPanic.normal ?_
 (try simp only [Act.put])
 have HRq7:Hid (RowsW Wq7 [(gq7,(refT n5),56),((g0+1+1+1),(refP 0 0 0 0),58),((g0+1+1),(refT dd),56),((g0+1),(refP X2 Y2 Z2 T2),58),(g0,(refP X1 Y1 Z1 T1),58)]):=yh ⟨hrowq7,HR0.out.below hbq7⟩
 have HBq7:=yh (zaa HB0.out hbq7)
 have NEq7_0:Hid (g0≠gq7):=yh (by have h:=HR0.out.lt (g0,(refP X1 Y1 Z1 T1),58) (by simp);have:=hgq7;simp only at h;omega)
 have NEq7_1:Hid ((g0+1)≠gq7):=yh (by have h:=HR0.out.lt ((g0+1),(refP X2 Y2 Z2 T2),58) (by simp);have:=hgq7;simp only at h;omega)
 have NEq7_2:Hid ((g0+1+1)≠gq7):=yh (by have h:=HR0.out.lt ((g0+1+1),(refT dd),56) (by simp);have:=hgq7;simp only at h;omega)
 have NEq7_3:Hid ((g0+1+1+1)≠gq7):=yh (by have h:=HR0.out.lt ((g0+1+1+1),(refP 0 0 0 0),58) (by simp);have:=hgq7;simp only at h;omega)
 have HGq7:=yh (Nat.le_trans HB0.out.size hgq7)
 clear hrowq7 hbq7 hgq7
 go_upto_region 2 with fail
 refine wp_region_noPanic ?_
 refine zal 11 8 56 (refT 0) (by kernel_rfl) (by kernel_rfl) ⟨by kernel_rfl,by kernel_rfl,hzR,fun _ _ _ h=>h⟩ (fun hA hS=>?_)
 refine' yD 0 hA hS ?_
 refine' yD 1 hA hS ?_ (hy:=fun W hSW=>zak rfl rfl (HRq7.out.below hSW).tail.tail.tail.tail.head Tryz.underlying56 rfl (zad Y1) (refP_1 _ _ _ _))
 refine' yD 2 hA hS ?_
 refine' yD 3 hA hS ?_ (hy:=fun W hSW=>zak rfl rfl (HRq7.out.below hSW).tail.tail.tail.tail.head Tryz.underlying56 rfl (zad X1) (refP_0 _ _ _ _))
 refine' yD 5 hA hS ?_
 refine' yD 6 hA hS ?_ (hy:=fun W hSW=>zak rfl rfl (HRq7.out.below hSW).tail.tail.tail.head Tryz.underlying56 rfl (zad Y2) (refP_1 _ _ _ _))
 refine' yD 7 hA hS ?_
 refine' yD 8 hA hS ?_ (hy:=fun W hSW=>zak rfl rfl (HRq7.out.below hSW).tail.tail.tail.head Tryz.underlying56 rfl (zad X2) (refP_0 _ _ _ _))
 refine xE 4 hA hS (fun oq9 Xq9 hS K hK=>?_)
 go_simp
 obtain ⟨n8,Hn8,HLn8⟩:=ym (K:=PP) ((Y1+X1) % PP) (Nat.mod_lt _ (by decide))
 have kq9:=fun W:World=>(raddN HC1.out.y HC1.out.x) W
 rw [Hn8.out] at kq9
 have Kq9:=yh kq9
 clear kq9
 with_reducible refine (Kq9.out _).mono ?_
 rintro e vq9 ⟨rfl,hbq9⟩
 refine hK.out _ _ hbq9 (fun hS=>?_)
 clear hK K hbq9
 refine xE 9 hA hS (fun oq11 Xq11 hS K hK=>?_)
 go_simp
 obtain ⟨n10,Hn10,HLn10⟩:=ym (K:=PP) ((Y2+X2) % PP) (Nat.mod_lt _ (by decide))
 have kq11:=fun W:World=>(raddN HC2.out.y HC2.out.x) W
 rw [Hn10.out] at kq11
 have Kq11:=yh kq11
 clear kq11
 with_reducible refine (Kq11.out _).mono ?_
 rintro e vq11 ⟨rfl,hbq11⟩
 refine hK.out _ _ hbq11 (fun hS=>?_)
 clear hK K hbq11
 refine xE 10 hA hS (fun oq13 Xq13 hS K hK=>?_)
 go_simp
 obtain ⟨n12,Hn12,HLn12⟩:=ym (K:=PP) ((n8*n10) % PP) (Nat.mod_lt _ (by decide))
 have kq13:=fun W:World=>(rmulN HLn8.out HLn10.out) W
 rw [Hn12.out] at kq13
 have Kq13:=yh kq13
 clear kq13
 with_reducible refine (Kq13.out _).mono ?_
 rintro e vq13 ⟨rfl,hbq13⟩
 refine hK.out _ _ hbq13 (fun hS=>?_)
 clear hK K hbq13
 refine' zaI 12 hA rfl (by kernel_rfl) (by kernel_rfl) (by kernel_rfl) hS (by kernel_rfl) rfl (by intro h;cases h) (zad _) (zat _ _) (zav _) ?_ ?_
 rotate_left 1
 ·intro g;simp only [List.set_cons_succ,List.set_cons_zero];rfl
 intro gq14 Wq14 hgq14 hbq14 hrowq14
 clear hA hS
 refine wpAnyH_done (by kernel_rfl) ?_ _
 refine NoPanic.normal ?_
 (try simp only [Act.put])
 have HRq14:Hid (RowsW Wq14 [(gq14,(refT n12),56),(gq7,(refT n5),56),((g0+1+1+1),(refP 0 0 0 0),58),((g0+1+1),(refT dd),56),((g0+1),(refP X2 Y2 Z2 T2),58),(g0,(refP X1 Y1 Z1 T1),58)]):=yh ⟨hrowq14,HRq7.out.below hbq14⟩
 have HBq14:=yh (zaa HBq7.out hbq14)
 have NEq14_0:Hid (g0≠gq14):=yh (by have h:=HRq7.out.lt (g0,(refP X1 Y1 Z1 T1),58) (by simp);have:=hgq14;simp only at h;omega)
 have NEq14_1:Hid ((g0+1)≠gq14):=yh (by have h:=HRq7.out.lt ((g0+1),(refP X2 Y2 Z2 T2),58) (by simp);have:=hgq14;simp only at h;omega)
 have NEq14_2:Hid ((g0+1+1)≠gq14):=yh (by have h:=HRq7.out.lt ((g0+1+1),(refT dd),56) (by simp);have:=hgq14;simp only at h;omega)
 have NEq14_3:Hid ((g0+1+1+1)≠gq14):=yh (by have h:=HRq7.out.lt ((g0+1+1+1),(refP 0 0 0 0),58) (by simp);have:=hgq14;simp only at h;omega)
 have NEq14_4:Hid (gq7≠gq14):=yh (by have h:=HRq7.out.lt (gq7,(refT n5),56) (by simp);have:=hgq14;simp only at h;omega)
 have HGq14:=yh (Nat.le_trans HBq7.out.size hgq14)
 clear hrowq14 hbq14 hgq14
 go_upto_region 3 with fail
 refine wp_region_noPanic ?_
 refine zal 7 9 56 (refT 0) (by kernel_rfl) (by kernel_rfl) ⟨by kernel_rfl,by kernel_rfl,hzR,fun _ _ _ h=>h⟩ (fun hA hS=>?_)
 refine' yD 0 hA hS ?_
 refine' yD 1 hA hS ?_ (hy:=fun W hSW=>zak rfl rfl (HRq14.out.below hSW).tail.tail.tail.tail.tail.head Tryz.underlying56 rfl (zad T1) (refP_3 _ _ _ _))
 refine' yD 2 hA hS ?_
 refine' yD 3 hA hS ?_ (hy:=fun W hSW=>zak rfl rfl (HRq14.out.below hSW).tail.tail.tail.tail.head Tryz.underlying56 rfl (zad T2) (refP_3 _ _ _ _))
 refine' yD 5 hA hS ?_ (hy:=fun W hSW=>zac rfl rfl (HRq14.out.below hSW).tail.tail.tail.head Tryz.underlying56 rfl (zad _))
 refine xE 4 hA hS (fun oq16 Xq16 hS K hK=>?_)
 go_simp
 obtain ⟨n15,Hn15,HLn15⟩:=ym (K:=PP) ((T1*T2) % PP) (Nat.mod_lt _ (by decide))
 have kq16:=fun W:World=>(rmulN HC1.out.t HC2.out.t) W
 rw [Hn15.out] at kq16
 have Kq16:=yh kq16
 clear kq16
 with_reducible refine (Kq16.out _).mono ?_
 rintro e vq16 ⟨rfl,hbq16⟩
 refine hK.out _ _ hbq16 (fun hS=>?_)
 clear hK K hbq16
 refine xE 6 hA hS (fun oq18 Xq18 hS K hK=>?_)
 go_simp
 obtain ⟨n17,Hn17,HLn17⟩:=ym (K:=PP) ((n15*dd) % PP) (Nat.mod_lt _ (by decide))
 have kq18:=fun W:World=>(rmulN HLn15.out HLdd.out) W
 rw [Hn17.out] at kq18
 have Kq18:=yh kq18
 clear kq18
 with_reducible refine (Kq18.out _).mono ?_
 rintro e vq18 ⟨rfl,hbq18⟩
 refine hK.out _ _ hbq18 (fun hS=>?_)
 clear hK K hbq18
 refine' zaI 8 hA rfl (by kernel_rfl) (by kernel_rfl) (by kernel_rfl) hS (by kernel_rfl) rfl (by intro h;cases h) (zad _) (zat _ _) (zav _) ?_ ?_
 rotate_left 1
 ·intro g;simp only [List.set_cons_succ,List.set_cons_zero];rfl
 intro gq19 Wq19 hgq19 hbq19 hrowq19
 clear hA hS
 refine wpAnyH_done (by kernel_rfl) ?_ _
 refine NoPanic.normal ?_
 (try simp only [Act.put])
 have HRq19:Hid (RowsW Wq19 [(gq19,(refT n17),56),(gq14,(refT n12),56),(gq7,(refT n5),56),((g0+1+1+1),(refP 0 0 0 0),58),((g0+1+1),(refT dd),56),((g0+1),(refP X2 Y2 Z2 T2),58),(g0,(refP X1 Y1 Z1 T1),58)]):=yh ⟨hrowq19,HRq14.out.below hbq19⟩
 have HBq19:=yh (zaa HBq14.out hbq19)
 have NEq19_0:Hid (g0≠gq19):=yh (by have h:=HRq14.out.lt (g0,(refP X1 Y1 Z1 T1),58) (by simp);have:=hgq19;simp only at h;omega)
 have NEq19_1:Hid ((g0+1)≠gq19):=yh (by have h:=HRq14.out.lt ((g0+1),(refP X2 Y2 Z2 T2),58) (by simp);have:=hgq19;simp only at h;omega)
 have NEq19_2:Hid ((g0+1+1)≠gq19):=yh (by have h:=HRq14.out.lt ((g0+1+1),(refT dd),56) (by simp);have:=hgq19;simp only at h;omega)
 have NEq19_3:Hid ((g0+1+1+1)≠gq19):=yh (by have h:=HRq14.out.lt ((g0+1+1+1),(refP 0 0 0 0),58) (by simp);have:=hgq19;simp only at h;omega)
 have NEq19_4:Hid (gq7≠gq19):=yh (by have h:=HRq14.out.lt (gq7,(refT n5),56) (by simp);have:=hgq19;simp only at h;omega)
 have NEq19_5:Hid (gq14≠gq19):=yh (by have h:=HRq14.out.lt (gq14,(refT n12),56) (by simp);have:=hgq19;simp only at h;omega)
 have HGq19:=yh (Nat.le_trans HBq14.out.size hgq19)
 clear hrowq19 hbq19 hgq19
 go_upto_region 4 with fail
 refine wp_region_noPanic ?_
 refine zal 8 10 56 (refT 0) (by kernel_rfl) (by kernel_rfl) ⟨by kernel_rfl,by kernel_rfl,hzR,fun _ _ _ h=>h⟩ (fun hA hS=>?_)
 refine' yD 0 hA hS ?_
 refine' yD 1 hA hS ?_ (hy:=fun W hSW=>zak rfl rfl (HRq19.out.below hSW).tail.tail.tail.tail.tail.tail.head Tryz.underlying56 rfl (zad Z1) (refP_2 _ _ _ _))
 refine' yD 2 hA hS ?_
 refine' yD 3 hA hS ?_ (hy:=fun W hSW=>zak rfl rfl (HRq19.out.below hSW).tail.tail.tail.tail.tail.tail.head Tryz.underlying56 rfl (zad Z1) (refP_2 _ _ _ _))
 refine' yD 5 hA hS ?_
 refine' yD 6 hA hS ?_ (hy:=fun W hSW=>zak rfl rfl (HRq19.out.below hSW).tail.tail.tail.tail.tail.head Tryz.underlying56 rfl (zad Z2) (refP_2 _ _ _ _))
 refine xE 4 hA hS (fun oq21 Xq21 hS K hK=>?_)
 go_simp
 obtain ⟨n20,Hn20,HLn20⟩:=ym (K:=PP) ((Z1+Z1) % PP) (Nat.mod_lt _ (by decide))
 have kq21:=fun W:World=>(raddN HC1.out.z HC1.out.z) W
 rw [Hn20.out] at kq21
 have Kq21:=yh kq21
 clear kq21
 with_reducible refine (Kq21.out _).mono ?_
 rintro e vq21 ⟨rfl,hbq21⟩
 refine hK.out _ _ hbq21 (fun hS=>?_)
 clear hK K hbq21
 refine xE 7 hA hS (fun oq23 Xq23 hS K hK=>?_)
 go_simp
 obtain ⟨n22,Hn22,HLn22⟩:=ym (K:=PP) ((n20*Z2) % PP) (Nat.mod_lt _ (by decide))
 have kq23:=fun W:World=>(rmulN HLn20.out HC2.out.z) W
 rw [Hn22.out] at kq23
 have Kq23:=yh kq23
 clear kq23
 with_reducible refine (Kq23.out _).mono ?_
 rintro e vq23 ⟨rfl,hbq23⟩
 refine hK.out _ _ hbq23 (fun hS=>?_)
 clear hK K hbq23
 refine' zaI 9 hA rfl (by kernel_rfl) (by kernel_rfl) (by kernel_rfl) hS (by kernel_rfl) rfl (by intro h;cases h) (zad _) (zat _ _) (zav _) ?_ ?_
 rotate_left 1
 ·intro g;simp only [List.set_cons_succ,List.set_cons_zero];rfl
 intro gq24 Wq24 hgq24 hbq24 hrowq24
 clear hA hS
 refine wpAnyH_done (by kernel_rfl) ?_ _
 refine NoPanic.normal ?_
 (try simp only [Act.put])
 have HRq24:Hid (RowsW Wq24 [(gq24,(refT n22),56),(gq19,(refT n17),56),(gq14,(refT n12),56),(gq7,(refT n5),56),((g0+1+1+1),(refP 0 0 0 0),58),((g0+1+1),(refT dd),56),((g0+1),(refP X2 Y2 Z2 T2),58),(g0,(refP X1 Y1 Z1 T1),58)]):=yh ⟨hrowq24,HRq19.out.below hbq24⟩
 have HBq24:=yh (zaa HBq19.out hbq24)
 have NEq24_0:Hid (g0≠gq24):=yh (by have h:=HRq19.out.lt (g0,(refP X1 Y1 Z1 T1),58) (by simp);have:=hgq24;simp only at h;omega)
 have NEq24_1:Hid ((g0+1)≠gq24):=yh (by have h:=HRq19.out.lt ((g0+1),(refP X2 Y2 Z2 T2),58) (by simp);have:=hgq24;simp only at h;omega)
 have NEq24_2:Hid ((g0+1+1)≠gq24):=yh (by have h:=HRq19.out.lt ((g0+1+1),(refT dd),56) (by simp);have:=hgq24;simp only at h;omega)
 have NEq24_3:Hid ((g0+1+1+1)≠gq24):=yh (by have h:=HRq19.out.lt ((g0+1+1+1),(refP 0 0 0 0),58) (by simp);have:=hgq24;simp only at h;omega)
 have NEq24_4:Hid (gq7≠gq24):=yh (by have h:=HRq19.out.lt (gq7,(refT n5),56) (by simp);have:=hgq24;simp only at h;omega)
 have NEq24_5:Hid (gq14≠gq24):=yh (by have h:=HRq19.out.lt (gq14,(refT n12),56) (by simp);have:=hgq24;simp only at h;omega)
 have NEq24_6:Hid (gq19≠gq24):=yh (by have h:=HRq19.out.lt (gq19,(refT n17),56) (by simp);have:=hgq24;simp only at h;omega)
 have HGq24:=yh (Nat.le_trans HBq19.out.size hgq24)
 clear hrowq24 hbq24 hgq24
 go_upto_region 5 with fail
 have l25:=HRq24.out.tail.tail.head
 have l26:=HRq24.out.tail.tail.tail.head
 go_wp2_with (first
   | (refine yi l25 Tryz.underlying56 (zad _) ?_)
   | (refine yi l26 Tryz.underlying56 (zad _) ?_))
 obtain ⟨n27,Hn27,HLn27⟩:=ym (K:=PP) ((n12+(PP-n5)) % PP) (Nat.mod_lt _ (by decide))
 have kq28:=fun W:World=>(rsubN HLn12.out HLn5.out) W
 rw [Hn27.out] at kq28
 have Kq28:=yh kq28
 clear kq28
 with_reducible refine (Kq28.out _).mono ?_
 rintro e vq28 ⟨rfl,hbq28⟩
 have HRq28:=yh (HRq24.out.below hbq28)
 have HBq28:=yh (zaa HBq24.out hbq28)
 clear hbq28
 have h0q29:(vq28.alloc (.cells (refT 0) 56)).heap[vq28.heap.size]?=some (.cells (refT 0) 56 (0,0)):=heap_alloc_new _ _
 have HRq29:=yh (HRq28.out.new (refT 0) (refT n27) 56)
 have HBq29:=yh (zan HBq28.out (refT 0) (refT n27) 56)
 have HNq29:=yh HRq28.out.ne
 have HGq29:=yh HBq28.out.size
 go_upto_region 6 with (refine yj (refT n27) h0q29 (zad _) (zat _ _) (zav _) ?_)
 obtain ⟨Wq29,hWq29⟩:∃ W,(vq28.alloc (.cells (refT 0) 56)).setRow vq28.heap.size (refT n27)=W:=⟨_,rfl⟩
 obtain ⟨gq29,hgq29⟩:∃ g,vq28.heap.size=g:=⟨_,rfl⟩
 rw [hWq29,hgq29] at HRq29
 rw [hWq29] at HBq29
 rw [hgq29] at HNq29 HGq29
 rw [hWq29,hgq29]
 clear hWq29 hgq29 h0q29
 have NEq29_0:Hid (g0≠gq29):=yh (HNq29.out (g0,(refP X1 Y1 Z1 T1),58) (by simp))
 have NEq29_1:Hid ((g0+1)≠gq29):=yh (HNq29.out ((g0+1),(refP X2 Y2 Z2 T2),58) (by simp))
 have NEq29_2:Hid ((g0+1+1)≠gq29):=yh (HNq29.out ((g0+1+1),(refT dd),56) (by simp))
 have NEq29_3:Hid ((g0+1+1+1)≠gq29):=yh (HNq29.out ((g0+1+1+1),(refP 0 0 0 0),58) (by simp))
 have NEq29_4:Hid (gq7≠gq29):=yh (HNq29.out (gq7,(refT n5),56) (by simp))
 have NEq29_5:Hid (gq14≠gq29):=yh (HNq29.out (gq14,(refT n12),56) (by simp))
 have NEq29_6:Hid (gq19≠gq29):=yh (HNq29.out (gq19,(refT n17),56) (by simp))
 have NEq29_7:Hid (gq24≠gq29):=yh (HNq29.out (gq24,(refT n22),56) (by simp))
 have l30:=HRq29.out.tail.head
 have l31:=HRq29.out.tail.tail.head
 go_wp2_with (first
   | (refine yi l30 Tryz.underlying56 (zad _) ?_)
   | (refine yi l31 Tryz.underlying56 (zad _) ?_))
 obtain ⟨n32,Hn32,HLn32⟩:=ym (K:=PP) ((n22+(PP-n17)) % PP) (Nat.mod_lt _ (by decide))
 have kq33:=fun W:World=>(rsubN HLn22.out HLn17.out) W
 rw [Hn32.out] at kq33
 have Kq33:=yh kq33
 clear kq33
 with_reducible refine (Kq33.out _).mono ?_
 rintro e vq33 ⟨rfl,hbq33⟩
 have HRq33:=yh (HRq29.out.below hbq33)
 have HBq33:=yh (zaa HBq29.out hbq33)
 clear hbq33
 have h0q34:(vq33.alloc (.cells (refT 0) 56)).heap[vq33.heap.size]?=some (.cells (refT 0) 56 (0,0)):=heap_alloc_new _ _
 have HRq34:=yh (HRq33.out.new (refT 0) (refT n32) 56)
 have HBq34:=yh (zan HBq33.out (refT 0) (refT n32) 56)
 have HNq34:=yh HRq33.out.ne
 have HGq34:=yh HBq33.out.size
 go_upto_region 7 with (refine yj (refT n32) h0q34 (zad _) (zat _ _) (zav _) ?_)
 obtain ⟨Wq34,hWq34⟩:∃ W,(vq33.alloc (.cells (refT 0) 56)).setRow vq33.heap.size (refT n32)=W:=⟨_,rfl⟩
 obtain ⟨gq34,hgq34⟩:∃ g,vq33.heap.size=g:=⟨_,rfl⟩
 rw [hWq34,hgq34] at HRq34
 rw [hWq34] at HBq34
 rw [hgq34] at HNq34 HGq34
 rw [hWq34,hgq34]
 clear hWq34 hgq34 h0q34
 have NEq34_0:Hid (g0≠gq34):=yh (HNq34.out (g0,(refP X1 Y1 Z1 T1),58) (by simp))
 have NEq34_1:Hid ((g0+1)≠gq34):=yh (HNq34.out ((g0+1),(refP X2 Y2 Z2 T2),58) (by simp))
 have NEq34_2:Hid ((g0+1+1)≠gq34):=yh (HNq34.out ((g0+1+1),(refT dd),56) (by simp))
 have NEq34_3:Hid ((g0+1+1+1)≠gq34):=yh (HNq34.out ((g0+1+1+1),(refP 0 0 0 0),58) (by simp))
 have NEq34_4:Hid (gq7≠gq34):=yh (HNq34.out (gq7,(refT n5),56) (by simp))
 have NEq34_5:Hid (gq14≠gq34):=yh (HNq34.out (gq14,(refT n12),56) (by simp))
 have NEq34_6:Hid (gq19≠gq34):=yh (HNq34.out (gq19,(refT n17),56) (by simp))
 have NEq34_7:Hid (gq24≠gq34):=yh (HNq34.out (gq24,(refT n22),56) (by simp))
 have NEq34_8:Hid (gq29≠gq34):=yh (HNq34.out (gq29,(refT n27),56) (by simp))
 have l35:=HRq34.out.tail.tail.head
 have l36:=HRq34.out.tail.tail.tail.head
 go_wp2_with (first
   | (refine yi l35 Tryz.underlying56 (zad _) ?_)
   | (refine yi l36 Tryz.underlying56 (zad _) ?_))
 obtain ⟨n37,Hn37,HLn37⟩:=ym (K:=PP) ((n22+n17) % PP) (Nat.mod_lt _ (by decide))
 have kq38:=fun W:World=>(raddN HLn22.out HLn17.out) W
 rw [Hn37.out] at kq38
 have Kq38:=yh kq38
 clear kq38
 with_reducible refine (Kq38.out _).mono ?_
 rintro e vq38 ⟨rfl,hbq38⟩
 have HRq38:=yh (HRq34.out.below hbq38)
 have HBq38:=yh (zaa HBq34.out hbq38)
 clear hbq38
 have h0q39:(vq38.alloc (.cells (refT 0) 56)).heap[vq38.heap.size]?=some (.cells (refT 0) 56 (0,0)):=heap_alloc_new _ _
 have HRq39:=yh (HRq38.out.new (refT 0) (refT n37) 56)
 have HBq39:=yh (zan HBq38.out (refT 0) (refT n37) 56)
 have HNq39:=yh HRq38.out.ne
 have HGq39:=yh HBq38.out.size
 go_upto_region 8 with (refine yj (refT n37) h0q39 (zad _) (zat _ _) (zav _) ?_)
 obtain ⟨Wq39,hWq39⟩:∃ W,(vq38.alloc (.cells (refT 0) 56)).setRow vq38.heap.size (refT n37)=W:=⟨_,rfl⟩
 obtain ⟨gq39,hgq39⟩:∃ g,vq38.heap.size=g:=⟨_,rfl⟩
 rw [hWq39,hgq39] at HRq39
 rw [hWq39] at HBq39
 rw [hgq39] at HNq39 HGq39
 rw [hWq39,hgq39]
 clear hWq39 hgq39 h0q39
 have NEq39_0:Hid (g0≠gq39):=yh (HNq39.out (g0,(refP X1 Y1 Z1 T1),58) (by simp))
 have NEq39_1:Hid ((g0+1)≠gq39):=yh (HNq39.out ((g0+1),(refP X2 Y2 Z2 T2),58) (by simp))
 have NEq39_2:Hid ((g0+1+1)≠gq39):=yh (HNq39.out ((g0+1+1),(refT dd),56) (by simp))
 have NEq39_3:Hid ((g0+1+1+1)≠gq39):=yh (HNq39.out ((g0+1+1+1),(refP 0 0 0 0),58) (by simp))
 have NEq39_4:Hid (gq7≠gq39):=yh (HNq39.out (gq7,(refT n5),56) (by simp))
 have NEq39_5:Hid (gq14≠gq39):=yh (HNq39.out (gq14,(refT n12),56) (by simp))
 have NEq39_6:Hid (gq19≠gq39):=yh (HNq39.out (gq19,(refT n17),56) (by simp))
 have NEq39_7:Hid (gq24≠gq39):=yh (HNq39.out (gq24,(refT n22),56) (by simp))
 have NEq39_8:Hid (gq29≠gq39):=yh (HNq39.out (gq29,(refT n27),56) (by simp))
 have NEq39_9:Hid (gq34≠gq39):=yh (HNq39.out (gq34,(refT n32),56) (by simp))
 have l40:=HRq39.out.tail.tail.tail.tail.tail.head
 have l41:=HRq39.out.tail.tail.tail.tail.tail.tail.head
 go_wp2_with (first
   | (refine yi l40 Tryz.underlying56 (zad _) ?_)
   | (refine yi l41 Tryz.underlying56 (zad _) ?_))
 obtain ⟨n42,Hn42,HLn42⟩:=ym (K:=PP) ((n12+n5) % PP) (Nat.mod_lt _ (by decide))
 have kq43:=fun W:World=>(raddN HLn12.out HLn5.out) W
 rw [Hn42.out] at kq43
 have Kq43:=yh kq43
 clear kq43
 with_reducible refine (Kq43.out _).mono ?_
 rintro e vq43 ⟨rfl,hbq43⟩
 have HRq43:=yh (HRq39.out.below hbq43)
 have HBq43:=yh (zaa HBq39.out hbq43)
 clear hbq43
 have h0q44:(vq43.alloc (.cells (refT 0) 56)).heap[vq43.heap.size]?=some (.cells (refT 0) 56 (0,0)):=heap_alloc_new _ _
 have HRq44:=yh (HRq43.out.new (refT 0) (refT n42) 56)
 have HBq44:=yh (zan HBq43.out (refT 0) (refT n42) 56)
 have HNq44:=yh HRq43.out.ne
 have HGq44:=yh HBq43.out.size
 go_upto_region 9 with (refine yj (refT n42) h0q44 (zad _) (zat _ _) (zav _) ?_)
 obtain ⟨Wq44,hWq44⟩:∃ W,(vq43.alloc (.cells (refT 0) 56)).setRow vq43.heap.size (refT n42)=W:=⟨_,rfl⟩
 obtain ⟨gq44,hgq44⟩:∃ g,vq43.heap.size=g:=⟨_,rfl⟩
 rw [hWq44,hgq44] at HRq44
 rw [hWq44] at HBq44
 rw [hgq44] at HNq44 HGq44
 rw [hWq44,hgq44]
 clear hWq44 hgq44 h0q44
 have NEq44_0:Hid (g0≠gq44):=yh (HNq44.out (g0,(refP X1 Y1 Z1 T1),58) (by simp))
 have NEq44_1:Hid ((g0+1)≠gq44):=yh (HNq44.out ((g0+1),(refP X2 Y2 Z2 T2),58) (by simp))
 have NEq44_2:Hid ((g0+1+1)≠gq44):=yh (HNq44.out ((g0+1+1),(refT dd),56) (by simp))
 have NEq44_3:Hid ((g0+1+1+1)≠gq44):=yh (HNq44.out ((g0+1+1+1),(refP 0 0 0 0),58) (by simp))
 have NEq44_4:Hid (gq7≠gq44):=yh (HNq44.out (gq7,(refT n5),56) (by simp))
 have NEq44_5:Hid (gq14≠gq44):=yh (HNq44.out (gq14,(refT n12),56) (by simp))
 have NEq44_6:Hid (gq19≠gq44):=yh (HNq44.out (gq19,(refT n17),56) (by simp))
 have NEq44_7:Hid (gq24≠gq44):=yh (HNq44.out (gq24,(refT n22),56) (by simp))
 have NEq44_8:Hid (gq29≠gq44):=yh (HNq44.out (gq29,(refT n27),56) (by simp))
 have NEq44_9:Hid (gq34≠gq44):=yh (HNq44.out (gq34,(refT n32),56) (by simp))
 have NEq44_10:Hid (gq39≠gq44):=yh (HNq44.out (gq39,(refT n37),56) (by simp))
 refine wp_region_noPanic ?_
 refine zag (S:=fun W=>Below Wq44.heap.size Wq44 W) 13 (by kernel_rfl) ⟨by kernel_rfl,by kernel_rfl,by kernel_rfl,by kernel_rfl⟩ (by exact (Below.refl _ _).drew) (fun hT inv hS=>?_)
 refine' yT 0 hT inv hS (fun inv=>?_) (hy:=fun W hSW=>zac rfl rfl (HRq44.out.below hSW).tail.tail.tail.head Tryz.underlying56 rfl (zad _))
 refine' yT 1 hT inv hS (fun inv=>?_) (hy:=fun W hSW=>zac rfl rfl (HRq44.out.below hSW).tail.tail.head Tryz.underlying56 rfl (zad _))
 refine' yT 3 hT inv hS (fun inv=>?_) (hy:=fun W hSW=>zac rfl rfl (HRq44.out.below hSW).tail.head Tryz.underlying56 rfl (zad _))
 refine' yT 4 hT inv hS (fun inv=>?_) (hy:=fun W hSW=>zac rfl rfl (HRq44.out.below hSW).head Tryz.underlying56 rfl (zad _))
 refine' yT 6 hT inv hS (fun inv=>?_) (hy:=fun W hSW=>zac rfl rfl (HRq44.out.below hSW).tail.tail.head Tryz.underlying56 rfl (zad _))
 refine' yT 7 hT inv hS (fun inv=>?_) (hy:=fun W hSW=>zac rfl rfl (HRq44.out.below hSW).tail.head Tryz.underlying56 rfl (zad _))
 refine' yT 9 hT inv hS (fun inv=>?_) (hy:=fun W hSW=>zac rfl rfl (HRq44.out.below hSW).tail.tail.tail.head Tryz.underlying56 rfl (zad _))
 refine' yT 10 hT inv hS (fun inv=>?_) (hy:=fun W hSW=>zac rfl rfl (HRq44.out.below hSW).head Tryz.underlying56 rfl (zad _))
 refine xT 2 inv (fun K hK=>?_)
 go_simp
 obtain ⟨n45,Hn45,HLn45⟩:=ym (K:=PP) ((n27*n32) % PP) (Nat.mod_lt _ (by decide))
 have kq46:=fun W:World=>(rmulN HLn27.out HLn32.out) W
 rw [Hn45.out] at kq46
 have Kq46:=yh kq46
 clear kq46
 with_reducible refine (Kq46.out _).mono ?_
 rintro e vq46 ⟨rfl,hbq46⟩
 have kbq46:=zaa hS hbq46
 clear hS hbq46
 refine hK.out _ _ (by exact kbq46) (fun inv hS=>?_)
 clear hK K
 refine xT 5 inv (fun K hK=>?_)
 go_simp
 obtain ⟨n47,Hn47,HLn47⟩:=ym (K:=PP) ((n37*n42) % PP) (Nat.mod_lt _ (by decide))
 have kq48:=fun W:World=>(rmulN HLn37.out HLn42.out) W
 rw [Hn47.out] at kq48
 have Kq48:=yh kq48
 clear kq48
 with_reducible refine (Kq48.out _).mono ?_
 rintro e vq48 ⟨rfl,hbq48⟩
 have kbq48:=zaa kbq46 hbq48
 clear hS hbq48
 refine hK.out _ _ (by exact kbq48) (fun inv hS=>?_)
 clear hK K
 refine xT 8 inv (fun K hK=>?_)
 go_simp
 obtain ⟨n49,Hn49,HLn49⟩:=ym (K:=PP) ((n32*n37) % PP) (Nat.mod_lt _ (by decide))
 have kq50:=fun W:World=>(rmulN HLn32.out HLn37.out) W
 rw [Hn49.out] at kq50
 have Kq50:=yh kq50
 clear kq50
 with_reducible refine (Kq50.out _).mono ?_
 rintro e vq50 ⟨rfl,hbq50⟩
 have kbq50:=zaa kbq48 hbq50
 clear hS hbq50
 refine hK.out _ _ (by exact kbq50) (fun inv hS=>?_)
 clear hK K
 refine xT 11 inv (fun K hK=>?_)
 go_simp
 obtain ⟨n51,Hn51,HLn51⟩:=ym (K:=PP) ((n27*n42) % PP) (Nat.mod_lt _ (by decide))
 have kq52:=fun W:World=>(rmulN HLn27.out HLn42.out) W
 rw [Hn51.out] at kq52
 have Kq52:=yh kq52
 clear kq52
 with_reducible refine (Kq52.out _).mono ?_
 rintro e vq52 ⟨rfl,hbq52⟩
 have kbq52:=zaa kbq50 hbq52
 clear hS hbq52
 refine hK.out _ _ (by exact kbq52) (fun inv hS=>?_)
 clear hK K
 refine' yT 12 hT inv hS (fun inv=>?_) (hy:=fun W hSW=>run_build4 rfl rfl rfl rfl rfl)
 refine zaN (by kernel_rfl) ?_
 simp only [List.drop_succ_cons,List.drop_zero]
 clear hS
 (try simp only [Act.put])
 have HRq53:=yh (HRq44.out.below kbq52)
 have HBq53:=yh (zaa HBq44.out kbq52)
 have lsq54:=HRq53.out.tail.tail.tail.tail.tail.tail.tail.tail.head
 have HRq54:Hid (RowsW (vq52.setRow (g0+1+1+1) (refP n45 n47 n49 n51)) [(gq44,(refT n42),56),(gq39,(refT n37),56),(gq34,(refT n32),56),(gq29,(refT n27),56),(gq24,(refT n22),56),(gq19,(refT n17),56),(gq14,(refT n12),56),(gq7,(refT n5),56),((g0+1+1+1),(refP n45 n47 n49 n51),58),((g0+1+1),(refT dd),56),((g0+1),(refP X2 Y2 Z2 T2),58),(g0,(refP X1 Y1 Z1 T1),58)]):=yh ⟨(by rw [setRow_other _ _ _ _ (Ne.symm NEq44_3.out)];exact HRq53.out.head),(by rw [setRow_other _ _ _ _ (Ne.symm NEq39_3.out)];exact HRq53.out.tail.head),(by rw [setRow_other _ _ _ _ (Ne.symm NEq34_3.out)];exact HRq53.out.tail.tail.head),(by rw [setRow_other _ _ _ _ (Ne.symm NEq29_3.out)];exact HRq53.out.tail.tail.tail.head),(by rw [setRow_other _ _ _ _ (Ne.symm NEq24_3.out)];exact HRq53.out.tail.tail.tail.tail.head),(by rw [setRow_other _ _ _ _ (Ne.symm NEq19_3.out)];exact HRq53.out.tail.tail.tail.tail.tail.head),(by rw [setRow_other _ _ _ _ (Ne.symm NEq14_3.out)];exact HRq53.out.tail.tail.tail.tail.tail.tail.head),(by rw [setRow_other _ _ _ _ (Ne.symm NEq7_3.out)];exact HRq53.out.tail.tail.tail.tail.tail.tail.tail.head),setRow_heap _ _ _ _ _ _ lsq54,(by rw [setRow_other _ _ _ _ (by omega)];exact HRq53.out.tail.tail.tail.tail.tail.tail.tail.tail.tail.head),(by rw [setRow_other _ _ _ _ (by omega)];exact HRq53.out.tail.tail.tail.tail.tail.tail.tail.tail.tail.tail.head),(by rw [setRow_other _ _ _ _ (by omega)];exact HRq53.out.tail.tail.tail.tail.tail.tail.tail.tail.tail.tail.tail.head),trivial⟩
 have HBq54:=yh (zab (g:=(g0+1+1+1)) (cs:=(refP n45 n47 n49 n51)) HBq53.out (by have:=HG0.out;omega))
 go_wp2_with (refine yj (refP n45 n47 n49 n51) lsq54 (zaC _ _ _ _) (zaW _ _ _ _ _ _ _ _) (zbj _ _ _ _) ?_)
 obtain ⟨Wq54,hWq54⟩:∃ W,vq52.setRow (g0+1+1+1) (refP n45 n47 n49 n51)=W:=⟨_,rfl⟩
 rw [hWq54] at HRq54 HBq54
 (try rw [hWq54])
 clear hWq54 lsq54
 refine NoPanic.normal ?_
 go_wp2_with fail
 have HCO:Co n45 n47 n49 n51 (padd p q):=by
  rw [← Hn45.out,← Hn47.out,← Hn49.out,← Hn51.out]
  exact co_add HC1.out HC2.out (by rw [Hn1.out,Hn3.out,Hn5.out]) (by rw [Hn8.out,Hn10.out,Hn12.out]) (by rw [Hn15.out,HDD.out,Hn17.out]) (by rw [Hn20.out,Hn22.out]) Hn27.out Hn32.out Hn37.out Hn42.out
 (try simp only [Exit.inBlock,Exit.then])
 refine bodyPost_ret (results_cell_row rfl _ _ (g0+1+1+1) _ (refP n45 n47 n49 n51) _ _ rfl HRq54.out.tail.tail.tail.tail.tail.tail.tail.tail.head Tryz.underlying58 rfl (zaC _ _ _ _)) rfl ?_
 exact ⟨_,rfl,⟨_,_,_,_,rfl,HCO⟩,HBq54.out⟩
theorem rPlusN {X1 Y1 Z1 T1 X2 Y2 Z2 T2:Nat} {p q:PtD} (h1:Co X1 Y1 Z1 T1 p) (h2:Co X2 Y2 Z2 T2 q) (w:World):Calls Tryz.prog 42 #[.agg (refP X1 Y1 Z1 T1),.agg (refP X2 Y2 Z2 T2)] w (RetPt RQ w (padd p q)):=by
 have HC1:=yh h1
 clear h1
 have HC2:=yh h2
 clear h2
 have hzR:=za6
 have hz32:=zao
 have hzP:=zbd
 have HR0:=yh ((((RowsW.nil w).box (refP X1 Y1 Z1 T1) 58).box (refP X2 Y2 Z2 T2) 58).box (refP 0 0 0 0) 58)
 have HB0:=yh (zaf (zaf (zaf (Below.refl w.heap.size w) (refP X1 Y1 Z1 T1) 58) (refP X2 Y2 Z2 T2) 58) (refP 0 0 0 0) 58)
 rw [World.size_alloc] at HR0
 rw [World.size_alloc] at HR0
 go_enter Tryz.func42,Tryz.ntmps42
 go_upto_region 1 with fail
 obtain ⟨W0,hW0⟩:∃ W,(((w.alloc (.cells (refP X1 Y1 Z1 T1) 58)).alloc (.cells (refP X2 Y2 Z2 T2) 58)).alloc (.cells (refP 0 0 0 0) 58))=W:=⟨_,rfl⟩
 obtain ⟨g0,hg0⟩:∃ g,w.heap.size=g:=⟨_,rfl⟩
 rw [hW0] at HR0 HB0
 rw [hg0] at HR0
 rw [hW0,hg0]
 have HG0:=yh hg0
 clear hW0 hg0
 refine wp_region_noPanic ?_
 refine zag (S:=fun W=>Below W0.heap.size W0 W) 6 (by kernel_rfl) ⟨by kernel_rfl,by kernel_rfl,by kernel_rfl,by kernel_rfl⟩ (by exact (Below.refl _ _).drew) (fun hT inv hS=>?_)
 refine' yT 0 hT inv hS (fun inv=>?_) (hy:=fun W hSW=>zac rfl rfl (HR0.out.below hSW).tail.tail.head Tryz.underlying58 rfl (zaC _ _ _ _))
 refine' yT 1 hT inv hS (fun inv=>?_) (hy:=fun W hSW=>zac rfl rfl (HR0.out.below hSW).tail.head Tryz.underlying58 rfl (zaC _ _ _ _))
 refine xT 2 inv (fun K hK=>?_)
 go_simp
 with_reducible refine (redgeN _).mono ?_
 rintro e vq1 ⟨rfl,hbq1⟩
 have kbq1:=zaa hS hbq1
 clear hS hbq1
 refine hK.out _ _ (by exact kbq1) (fun inv hS=>?_)
 clear hK K
 refine xT 3 inv (fun K hK=>?_)
 go_simp
 with_reducible refine (redgeN _).mono ?_
 rintro e vq2 ⟨rfl,hbq2⟩
 have kbq2:=zaa kbq1 hbq2
 clear hS hbq2
 refine hK.out _ _ (by exact kbq2) (fun inv hS=>?_)
 clear hK K
 refine xT 4 inv (fun K hK=>?_)
 go_simp
 with_reducible refine ((raddN edN_lt edN_lt) _).mono ?_
 rintro e vq3 ⟨rfl,hbq3⟩
 have kbq3:=zaa kbq2 hbq3
 clear hS hbq3
 refine hK.out _ _ (by exact kbq3) (fun inv hS=>?_)
 clear hK K
 refine xT 5 inv (fun K hK=>?_)
 go_simp
 with_reducible refine ((rplusN HC1.out HC2.out) _).mono ?_
 rintro e vq4 ⟨cq4,rfl,rq4,hbq4⟩
 have Rq4:=yh rq4
 clear rq4
 have kbq4:=zaa kbq3 hbq4
 clear hS hbq4
 refine hK.out _ _ (by exact kbq4) (fun inv hS=>?_)
 clear hK K
 refine zaN (by kernel_rfl) ?_
 simp only [List.drop_succ_cons,List.drop_zero]
 clear hS
 (try simp only [Act.put])
 have HRq5:=yh (HR0.out.below kbq4)
 have HBq5:=yh (zaa HB0.out kbq4)
 have lsq6:=HRq5.out.head
 have HRq6:Hid (RowsW (vq4.setRow (g0+1+1) cq4) [((g0+1+1),cq4,58),((g0+1),(refP X2 Y2 Z2 T2),58),(g0,(refP X1 Y1 Z1 T1),58)]):=yh ⟨setRow_heap _ _ _ _ _ _ lsq6,(by rw [setRow_other _ _ _ _ (by omega)];exact HRq5.out.tail.head),(by rw [setRow_other _ _ _ _ (by omega)];exact HRq5.out.tail.tail.head),trivial⟩
 have HBq6:=yh (zab (g:=(g0+1+1)) (cs:=cq4) HBq5.out (by have:=HG0.out;omega))
 go_wp2_with (refine yj cq4 lsq6 (zbD Rq4.out) (rq_size Rq4.out) (rq_one Rq4.out) ?_)
 obtain ⟨Wq6,hWq6⟩:∃ W,vq4.setRow (g0+1+1) cq4=W:=⟨_,rfl⟩
 rw [hWq6] at HRq6 HBq6
 (try rw [hWq6])
 clear hWq6 lsq6
 refine NoPanic.normal ?_
 go_wp2_with fail
 (try simp only [Exit.inBlock,Exit.then])
 refine bodyPost_ret (results_cell_row rfl _ _ (g0+1+1) _ cq4 _ _ rfl HRq6.out.head Tryz.underlying58 rfl (zbD Rq4.out)) rfl ?_
 exact ⟨_,rfl,Rq4.out,HBq6.out⟩
theorem rturnN {X1 Y1 Z1 T1:Nat} {p:PtD} (h1:Co X1 Y1 Z1 T1 p) (w:World):Calls Tryz.prog 43 #[.agg (refP X1 Y1 Z1 T1)] w (RetPt RQ w p.neg):=by
 have HC1:=yh h1
 clear h1
 have hzR:=za6
 have hz32:=zao
 have hzP:=zbd
 have HR0:=yh (((RowsW.nil w).box (refP X1 Y1 Z1 T1) 58).box (refP 0 0 0 0) 58)
 have HB0:=yh (zaf (zaf (Below.refl w.heap.size w) (refP X1 Y1 Z1 T1) 58) (refP 0 0 0 0) 58)
 rw [World.size_alloc] at HR0
 go_enter Tryz.func43,Tryz.ntmps43
 go_upto_region 1 with fail
 obtain ⟨W0,hW0⟩:∃ W,((w.alloc (.cells (refP X1 Y1 Z1 T1) 58)).alloc (.cells (refP 0 0 0 0) 58))=W:=⟨_,rfl⟩
 obtain ⟨g0,hg0⟩:∃ g,w.heap.size=g:=⟨_,rfl⟩
 rw [hW0] at HR0 HB0
 rw [hg0] at HR0
 rw [hW0,hg0]
 have HG0:=yh hg0
 clear hW0 hg0
 refine wp_region_noPanic ?_
 refine zag (S:=fun W=>Below W0.heap.size W0 W) 11 (by kernel_rfl) ⟨by kernel_rfl,by kernel_rfl,by kernel_rfl,by kernel_rfl⟩ (by exact (Below.refl _ _).drew) (fun hT inv hS=>?_)
 refine' yT 0 hT inv hS (fun inv=>?_)
 refine' yT 1 hT inv hS (fun inv=>?_) (hy:=fun W hSW=>zak rfl rfl (HR0.out.below hSW).tail.head Tryz.underlying56 rfl (zad X1) (refP_0 _ _ _ _))
 refine' yT 3 hT inv hS (fun inv=>?_)
 refine' yT 4 hT inv hS (fun inv=>?_) (hy:=fun W hSW=>zak rfl rfl (HR0.out.below hSW).tail.head Tryz.underlying56 rfl (zad Y1) (refP_1 _ _ _ _))
 refine' yT 5 hT inv hS (fun inv=>?_)
 refine' yT 6 hT inv hS (fun inv=>?_) (hy:=fun W hSW=>zak rfl rfl (HR0.out.below hSW).tail.head Tryz.underlying56 rfl (zad Z1) (refP_2 _ _ _ _))
 refine' yT 7 hT inv hS (fun inv=>?_)
 refine' yT 8 hT inv hS (fun inv=>?_) (hy:=fun W hSW=>zak rfl rfl (HR0.out.below hSW).tail.head Tryz.underlying56 rfl (zad T1) (refP_3 _ _ _ _))
 refine xT 2 inv (fun K hK=>?_)
 go_simp
 obtain ⟨n1,Hn1,HLn1⟩:=ym (K:=PP) ((PP-X1) % PP) (Nat.mod_lt _ (by decide))
 have kq2:=fun W:World=>(rnegN HC1.out.x) W
 rw [Hn1.out] at kq2
 have Kq2:=yh kq2
 clear kq2
 with_reducible refine (Kq2.out _).mono ?_
 rintro e vq2 ⟨rfl,hbq2⟩
 have kbq2:=zaa hS hbq2
 clear hS hbq2
 refine hK.out _ _ (by exact kbq2) (fun inv hS=>?_)
 clear hK K
 refine xT 9 inv (fun K hK=>?_)
 go_simp
 obtain ⟨n3,Hn3,HLn3⟩:=ym (K:=PP) ((PP-T1) % PP) (Nat.mod_lt _ (by decide))
 have kq4:=fun W:World=>(rnegN HC1.out.t) W
 rw [Hn3.out] at kq4
 have Kq4:=yh kq4
 clear kq4
 with_reducible refine (Kq4.out _).mono ?_
 rintro e vq4 ⟨rfl,hbq4⟩
 have kbq4:=zaa kbq2 hbq4
 clear hS hbq4
 refine hK.out _ _ (by exact kbq4) (fun inv hS=>?_)
 clear hK K
 refine' yT 10 hT inv hS (fun inv=>?_) (hy:=fun W hSW=>run_build4 rfl rfl rfl rfl rfl)
 refine zaN (by kernel_rfl) ?_
 simp only [List.drop_succ_cons,List.drop_zero]
 clear hS
 (try simp only [Act.put])
 have HRq5:=yh (HR0.out.below kbq4)
 have HBq5:=yh (zaa HB0.out kbq4)
 have lsq6:=HRq5.out.head
 have HRq6:Hid (RowsW (vq4.setRow (g0+1) (refP n1 Y1 Z1 n3)) [((g0+1),(refP n1 Y1 Z1 n3),58),(g0,(refP X1 Y1 Z1 T1),58)]):=yh ⟨setRow_heap _ _ _ _ _ _ lsq6,(by rw [setRow_other _ _ _ _ (by omega)];exact HRq5.out.tail.head),trivial⟩
 have HBq6:=yh (zab (g:=(g0+1)) (cs:=(refP n1 Y1 Z1 n3)) HBq5.out (by have:=HG0.out;omega))
 go_wp2_with (refine yj (refP n1 Y1 Z1 n3) lsq6 (zaC _ _ _ _) (zaW _ _ _ _ _ _ _ _) (zbj _ _ _ _) ?_)
 obtain ⟨Wq6,hWq6⟩:∃ W,vq4.setRow (g0+1) (refP n1 Y1 Z1 n3)=W:=⟨_,rfl⟩
 rw [hWq6] at HRq6 HBq6
 (try rw [hWq6])
 clear hWq6 lsq6
 refine NoPanic.normal ?_
 go_wp2_with fail
 (try simp only [Exit.inBlock,Exit.then])
 refine bodyPost_ret (results_cell_row rfl _ _ (g0+1) _ (refP n1 Y1 Z1 n3) _ _ rfl HRq6.out.head Tryz.underlying58 rfl (zaC _ _ _ _)) rfl ?_
 exact ⟨_,rfl,⟨_,_,_,_,rfl,by rw [← Hn1.out,← Hn3.out];exact co_neg HC1.out⟩,HBq6.out⟩
theorem rplus_any {c d:Array Value} {p q:PtD} (h:RQ c p) (k:RQ d q) (w:World):Calls Tryz.prog 42 #[.agg c,.agg d] w (RetPt RQ w (padd p q)):=by
 obtain ⟨X,Y,Z,T,rfl,hc⟩:=h
 obtain ⟨X',Y',Z',T',rfl,kc⟩:=k
 exact rPlusN hc kc w
theorem rturn_any {c:Array Value} {p:PtD} (h:RQ c p) (w:World):Calls Tryz.prog 43 #[.agg c] w (RetPt RQ w p.neg):=by
 obtain ⟨X,Y,Z,T,rfl,hc⟩:=h
 exact rturnN hc w
theorem rdecodeN {l:List UInt8} (hl:l.length=32) (w:World):Calls Tryz.prog 40 #[.agg (arrB l)] w (RetPtB RQ w (decP l) (decF l)):=by
 have HL:=yh hl
 obtain ⟨t,ht⟩:∃ t,(l.getD 31 0).toNat=t:=⟨_,rfl⟩
 have htl:t<256:=by rw [← ht];exact (l.getD 31 0).toNat_lt
 have HS:Hid (decS l=decide (127<t)):=yh (by unfold decS;rw [ht])
 have HT:=yh ht
 clear ht hl
 have hzR:=za6
 have hz32:=zao
 have hzP:=zbd
 have HR0:=yh (((RowsW.nil w).box (arrB l) 22).box (refP 0 0 0 0) 58)
 have HB0:=yh (zaf (zaf (Below.refl w.heap.size w) (arrB l) 22) (refP 0 0 0 0) 58)
 rw [World.size_alloc] at HR0
 go_enter Tryz.func40,Tryz.ntmps40
 go_upto_region 1 with fail
 obtain ⟨W0,hW0⟩:∃ W,((w.alloc (.cells (arrB l) 22)).alloc (.cells (refP 0 0 0 0) 58))=W:=⟨_,rfl⟩
 obtain ⟨g0,hg0⟩:∃ g,w.heap.size=g:=⟨_,rfl⟩
 rw [hW0] at HR0 HB0
 rw [hg0] at HR0
 rw [hW0,hg0]
 have HG0:=yh hg0
 clear hW0 hg0
 have cx:W0.cell? ⟨g0,31,none⟩=some (.int .u8 (t:Int)):=by rw [cell_of_row _ _ _ _ _ _ HR0.out.tail.head,zaE _ _ (by rw [HL.out];omega),HT.out]
 by_cases ho:127<t
 ·have HOD:Hid (decS l=true):=yh (by rw [HS.out];exact decide_eq_true ho)
  have d1:decide ((127:Int)<(t:Int))=true:=decide_eq_true (by omega)
  clear ho
  go_upto_region 2 with fail
  clear cx d1
  cases hcan:canN l
  ·have HCA:=yh hcan
   clear hcan
   have l1:=HR0.out.tail.head
   go_wp2_with (refine yi l1 Tryz.underlying22 (zah HL.out) ?_)
   have kq2:=fun W:World=>(rcanN l HL.out) W
   rw [HCA.out] at kq2
   have Kq2:=yh kq2
   clear kq2
   with_reducible refine (Kq2.out _).mono ?_
   rintro e vq2 ⟨rfl,hbq2⟩
   have HRq2:=yh (HR0.out.below hbq2)
   have HBq2:=yh (zaa HB0.out hbq2)
   clear hbq2
   go_upto_region 3 with fail
   go_wp2_with fail
   with_reducible refine (rzeroN _).mono ?_
   rintro e vq3 ⟨rfl,hbq3⟩
   have HRq3:=yh (HRq2.out.below hbq3)
   have HBq3:=yh (zaa HBq2.out hbq3)
   clear hbq3
   have lsq4:=HRq3.out.head
   have HRq4:Hid (RowsW (vq3.setRow (g0+1) (refP 0 1 1 0)) [((g0+1),(refP 0 1 1 0),58),(g0,(arrB l),22)]):=yh ⟨setRow_heap _ _ _ _ _ _ lsq4,(by rw [setRow_other _ _ _ _ (by omega)];exact HRq3.out.tail.head),trivial⟩
   have HBq4:=yh (zab (g:=(g0+1)) (cs:=(refP 0 1 1 0)) HBq3.out (by have:=HG0.out;omega))
   go_wp2_with (refine yj (refP 0 1 1 0) lsq4 (zaC _ _ _ _) (zaW _ _ _ _ _ _ _ _) (zbj _ _ _ _) ?_)
   obtain ⟨Wq4,hWq4⟩:∃ W,vq3.setRow (g0+1) (refP 0 1 1 0)=W:=⟨_,rfl⟩
   rw [hWq4] at HRq4 HBq4
   (try rw [hWq4])
   clear hWq4 lsq4
   (try simp only [Exit.inBlock,Exit.then])
   refine bodyPost_ret (zaw rfl _ _ (g0+1) _ (refP 0 1 1 0) _ _ (.bool false) rfl rfl HRq4.out.head Tryz.underlying58 rfl (zaC _ _ _ _)) rfl ?_
   have e2:decF l=false:=decF_can HCA.out
   have e1:=decP_no e2
   exact ⟨_,by rw [e2],by rw [e1];exact ⟨_,_,_,_,rfl,co_zero⟩,HBq4.out⟩
  ·have HCA:=yh hcan
   clear hcan
   have l5:=HR0.out.tail.head
   go_wp2_with (refine yi l5 Tryz.underlying22 (zah HL.out) ?_)
   have kq6:=fun W:World=>(rcanN l HL.out) W
   rw [HCA.out] at kq6
   have Kq6:=yh kq6
   clear kq6
   with_reducible refine (Kq6.out _).mono ?_
   rintro e vq6 ⟨rfl,hbq6⟩
   have HRq6:=yh (HR0.out.below hbq6)
   have HBq6:=yh (zaa HB0.out hbq6)
   clear hbq6
   go_upto_region 4 with fail
   have l7:=HRq6.out.tail.head
   go_wp2_with (refine yi l7 Tryz.underlying22 (zah HL.out) ?_)
   obtain ⟨n8,Hn8,HLn8⟩:=ym (K:=PP) (feN l) (Nat.mod_lt _ (by decide))
   have kq9:=fun W:World=>(rfromN l HL.out) W
   rw [Hn8.out] at kq9
   have Kq9:=yh kq9
   clear kq9
   with_reducible refine (Kq9.out _).mono ?_
   rintro e vq9 ⟨rfl,hbq9⟩
   have HRq9:=yh (HRq6.out.below hbq9)
   have HBq9:=yh (zaa HBq6.out hbq9)
   clear hbq9
   have h0q10:(vq9.alloc (.cells (refT 0) 56)).heap[vq9.heap.size]?=some (.cells (refT 0) 56 (0,0)):=heap_alloc_new _ _
   have HRq10:=yh (HRq9.out.new (refT 0) (refT n8) 56)
   have HBq10:=yh (zan HBq9.out (refT 0) (refT n8) 56)
   have HNq10:=yh HRq9.out.ne
   have HGq10:=yh HBq9.out.size
   go_upto_region 5 with (refine yj (refT n8) h0q10 (zad _) (zat _ _) (zav _) ?_)
   obtain ⟨Wq10,hWq10⟩:∃ W,(vq9.alloc (.cells (refT 0) 56)).setRow vq9.heap.size (refT n8)=W:=⟨_,rfl⟩
   obtain ⟨gq10,hgq10⟩:∃ g,vq9.heap.size=g:=⟨_,rfl⟩
   rw [hWq10,hgq10] at HRq10
   rw [hWq10] at HBq10
   rw [hgq10] at HNq10 HGq10
   rw [hWq10,hgq10]
   clear hWq10 hgq10 h0q10
   have NEq10_0:Hid (g0≠gq10):=yh (HNq10.out (g0,(arrB l),22) (by simp))
   have NEq10_1:Hid ((g0+1)≠gq10):=yh (HNq10.out ((g0+1),(refP 0 0 0 0),58) (by simp))
   obtain ⟨n11,Hn11,HLn11⟩:=ym (K:=PP) (ratN (upN n8) (dnN n8)) (ratN_lt _ _)
   cases hfi:fineN (upN n8) (dnN n8)
   ·have HFI:=yh hfi
    clear hfi
    have l12:=HRq10.out.head
    go_wp2_with (refine yi l12 Tryz.underlying56 (zad _) ?_)
    have Ht13:Hid (fineN (upN n8) (dnN n8)=false):=yh HFI.out
    have kq14:=fun W:World=>(rxofN HLn8.out) W
    rw [Hn11.out,Ht13.out] at kq14
    have Kq14:=yh kq14
    clear kq14
    with_reducible refine (Kq14.out _).mono ?_
    rintro e vq14 ⟨rfl,hbq14⟩
    have HRq14:=yh (HRq10.out.below hbq14)
    have HBq14:=yh (zaa HBq10.out hbq14)
    clear hbq14
    have h0q15:(vq14.alloc (.cells (refT 0) 56)).heap[vq14.heap.size]?=some (.cells (refT 0) 56 (0,0)):=heap_alloc_new _ _
    have HRq15:=yh (HRq14.out.new (refT 0) (refT n11) 56)
    have HBq15:=yh (zan HBq14.out (refT 0) (refT n11) 56)
    have HNq15:=yh HRq14.out.ne
    have HGq15:=yh HBq14.out.size
    go_upto_region 6 with (refine yj (refT n11) h0q15 (zad _) (zat _ _) (zav _) ?_)
    obtain ⟨Wq15,hWq15⟩:∃ W,(vq14.alloc (.cells (refT 0) 56)).setRow vq14.heap.size (refT n11)=W:=⟨_,rfl⟩
    obtain ⟨gq15,hgq15⟩:∃ g,vq14.heap.size=g:=⟨_,rfl⟩
    rw [hWq15,hgq15] at HRq15
    rw [hWq15] at HBq15
    rw [hgq15] at HNq15 HGq15
    rw [hWq15,hgq15]
    clear hWq15 hgq15 h0q15
    have NEq15_0:Hid (g0≠gq15):=yh (HNq15.out (g0,(arrB l),22) (by simp))
    have NEq15_1:Hid ((g0+1)≠gq15):=yh (HNq15.out ((g0+1),(refP 0 0 0 0),58) (by simp))
    have NEq15_2:Hid (gq10≠gq15):=yh (HNq15.out (gq10,(refT n8),56) (by simp))
    go_upto_region 7 with fail
    go_wp2_with fail
    with_reducible refine (rzeroN _).mono ?_
    rintro e vq16 ⟨rfl,hbq16⟩
    have HRq16:=yh (HRq15.out.below hbq16)
    have HBq16:=yh (zaa HBq15.out hbq16)
    clear hbq16
    have lsq17:=HRq16.out.tail.tail.head
    have HRq17:Hid (RowsW (vq16.setRow (g0+1) (refP 0 1 1 0)) [(gq15,(refT n11),56),(gq10,(refT n8),56),((g0+1),(refP 0 1 1 0),58),(g0,(arrB l),22)]):=yh ⟨(by rw [setRow_other _ _ _ _ (Ne.symm NEq15_1.out)];exact HRq16.out.head),(by rw [setRow_other _ _ _ _ (Ne.symm NEq10_1.out)];exact HRq16.out.tail.head),setRow_heap _ _ _ _ _ _ lsq17,(by rw [setRow_other _ _ _ _ (by omega)];exact HRq16.out.tail.tail.tail.head),trivial⟩
    have HBq17:=yh (zab (g:=(g0+1)) (cs:=(refP 0 1 1 0)) HBq16.out (by have:=HG0.out;omega))
    go_wp2_with (refine yj (refP 0 1 1 0) lsq17 (zaC _ _ _ _) (zaW _ _ _ _ _ _ _ _) (zbj _ _ _ _) ?_)
    obtain ⟨Wq17,hWq17⟩:∃ W,vq16.setRow (g0+1) (refP 0 1 1 0)=W:=⟨_,rfl⟩
    rw [hWq17] at HRq17 HBq17
    (try rw [hWq17])
    clear hWq17 lsq17
    (try simp only [Exit.inBlock,Exit.then])
    refine bodyPost_ret (zaw rfl _ _ (g0+1) _ (refP 0 1 1 0) _ _ (.bool false) rfl rfl HRq17.out.tail.tail.head Tryz.underlying58 rfl (zaC _ _ _ _)) rfl ?_
    have e2:decF l=false:=decF_fine (by rw [Hn8.out];exact HFI.out)
    have e1:=decP_no e2
    exact ⟨_,by rw [e2],by rw [e1];exact ⟨_,_,_,_,rfl,co_zero⟩,HBq17.out⟩
   ·have HFI:=yh hfi
    clear hfi
    have l18:=HRq10.out.head
    go_wp2_with (refine yi l18 Tryz.underlying56 (zad _) ?_)
    have Ht19:Hid (fineN (upN n8) (dnN n8)=true):=yh HFI.out
    have kq20:=fun W:World=>(rxofN HLn8.out) W
    rw [Hn11.out,Ht19.out] at kq20
    have Kq20:=yh kq20
    clear kq20
    with_reducible refine (Kq20.out _).mono ?_
    rintro e vq20 ⟨rfl,hbq20⟩
    have HRq20:=yh (HRq10.out.below hbq20)
    have HBq20:=yh (zaa HBq10.out hbq20)
    clear hbq20
    have h0q21:(vq20.alloc (.cells (refT 0) 56)).heap[vq20.heap.size]?=some (.cells (refT 0) 56 (0,0)):=heap_alloc_new _ _
    have HRq21:=yh (HRq20.out.new (refT 0) (refT n11) 56)
    have HBq21:=yh (zan HBq20.out (refT 0) (refT n11) 56)
    have HNq21:=yh HRq20.out.ne
    have HGq21:=yh HBq20.out.size
    go_upto_region 6 with (refine yj (refT n11) h0q21 (zad _) (zat _ _) (zav _) ?_)
    obtain ⟨Wq21,hWq21⟩:∃ W,(vq20.alloc (.cells (refT 0) 56)).setRow vq20.heap.size (refT n11)=W:=⟨_,rfl⟩
    obtain ⟨gq21,hgq21⟩:∃ g,vq20.heap.size=g:=⟨_,rfl⟩
    rw [hWq21,hgq21] at HRq21
    rw [hWq21] at HBq21
    rw [hgq21] at HNq21 HGq21
    rw [hWq21,hgq21]
    clear hWq21 hgq21 h0q21
    have NEq21_0:Hid (g0≠gq21):=yh (HNq21.out (g0,(arrB l),22) (by simp))
    have NEq21_1:Hid ((g0+1)≠gq21):=yh (HNq21.out ((g0+1),(refP 0 0 0 0),58) (by simp))
    have NEq21_2:Hid (gq10≠gq21):=yh (HNq21.out (gq10,(refT n8),56) (by simp))
    by_cases hx0:n11=0
    ·have HX0:=yh hx0
     clear hx0
     have l22:=HRq21.out.head
     go_upto_region 7 with (first
       | (refine zaj (o:=⟨some 25,_,_,_,_,_⟩) rfl (.agg (refT n11)) (zac rfl rfl l22 Tryz.underlying56 rfl (zad _)) ?_)
       | (refine zaj (o:=⟨some 27,_,_,_,_,_⟩) rfl (.bool true) (za2 rfl rfl rfl guardR (eqRefT HLn11.out (show 0<PP by decide) (HX0.out) _)) ?_))
     go_wp2_with fail
     with_reducible refine (rzeroN _).mono ?_
     rintro e vq23 ⟨rfl,hbq23⟩
     have HRq23:=yh (HRq21.out.below hbq23)
     have HBq23:=yh (zaa HBq21.out hbq23)
     clear hbq23
     have lsq24:=HRq23.out.tail.tail.head
     have HRq24:Hid (RowsW (vq23.setRow (g0+1) (refP 0 1 1 0)) [(gq21,(refT n11),56),(gq10,(refT n8),56),((g0+1),(refP 0 1 1 0),58),(g0,(arrB l),22)]):=yh ⟨(by rw [setRow_other _ _ _ _ (Ne.symm NEq21_1.out)];exact HRq23.out.head),(by rw [setRow_other _ _ _ _ (Ne.symm NEq10_1.out)];exact HRq23.out.tail.head),setRow_heap _ _ _ _ _ _ lsq24,(by rw [setRow_other _ _ _ _ (by omega)];exact HRq23.out.tail.tail.tail.head),trivial⟩
     have HBq24:=yh (zab (g:=(g0+1)) (cs:=(refP 0 1 1 0)) HBq23.out (by have:=HG0.out;omega))
     go_wp2_with (refine yj (refP 0 1 1 0) lsq24 (zaC _ _ _ _) (zaW _ _ _ _ _ _ _ _) (zbj _ _ _ _) ?_)
     obtain ⟨Wq24,hWq24⟩:∃ W,vq23.setRow (g0+1) (refP 0 1 1 0)=W:=⟨_,rfl⟩
     rw [hWq24] at HRq24 HBq24
     (try rw [hWq24])
     clear hWq24 lsq24
     (try simp only [Exit.inBlock,Exit.then])
     refine bodyPost_ret (zaw rfl _ _ (g0+1) _ (refP 0 1 1 0) _ _ (.bool false) rfl rfl HRq24.out.tail.tail.head Tryz.underlying58 rfl (zaC _ _ _ _)) rfl ?_
     have e2:decF l=false:=decF_sign (by rw [(show ratN (upN (feN l)) (dnN (feN l))=n11 by rw [Hn8.out,Hn11.out])];exact HX0.out) HOD.out
     have e1:=decP_no e2
     exact ⟨_,by rw [e2],by rw [e1];exact ⟨_,_,_,_,rfl,co_zero⟩,HBq24.out⟩
    ·have HX0:=yh hx0
     clear hx0
     have l25:=HRq21.out.head
     go_upto_region 8 with (first
       | (refine zaj (o:=⟨some 25,_,_,_,_,_⟩) rfl (.agg (refT n11)) (zac rfl rfl l25 Tryz.underlying56 rfl (zad _)) ?_)
       | (refine zaj (o:=⟨some 27,_,_,_,_,_⟩) rfl (.bool false) (za2 rfl rfl rfl guardR (eqRefF HLn11.out (show 0<PP by decide) (HX0.out) _)) ?_))
     go_upto_region 9 with fail
     have l26:=HRq21.out.head
     go_wp2_with (refine yi l26 Tryz.underlying56 (zad _) ?_)
     obtain ⟨n27,Hn27,HLn27⟩:=ym (K:=PP) ((PP-n11) % PP) (Nat.mod_lt _ (by decide))
     have kq28:=fun W:World=>(rnegN HLn11.out) W
     rw [Hn27.out] at kq28
     have Kq28:=yh kq28
     clear kq28
     with_reducible refine (Kq28.out _).mono ?_
     rintro e vq28 ⟨rfl,hbq28⟩
     have HRq28:=yh (HRq21.out.below hbq28)
     have HBq28:=yh (zaa HBq21.out hbq28)
     clear hbq28
     have lsq29:=HRq28.out.head
     have HRq29:Hid (RowsW (vq28.setRow gq21 (refT n27)) [(gq21,(refT n27),56),(gq10,(refT n8),56),((g0+1),(refP 0 0 0 0),58),(g0,(arrB l),22)]):=yh ⟨setRow_heap _ _ _ _ _ _ lsq29,(by rw [setRow_other _ _ _ _ NEq21_2.out];exact HRq28.out.tail.head),(by rw [setRow_other _ _ _ _ NEq21_1.out];exact HRq28.out.tail.tail.head),(by rw [setRow_other _ _ _ _ NEq21_0.out];exact HRq28.out.tail.tail.tail.head),trivial⟩
     have HBq29:=yh (zab (g:=gq21) (cs:=(refT n27)) HBq28.out HGq21.out)
     go_upto_region 10 with (refine yj (refT n27) lsq29 (zad _) (zat _ _) (zav _) ?_)
     obtain ⟨Wq29,hWq29⟩:∃ W,vq28.setRow gq21 (refT n27)=W:=⟨_,rfl⟩
     rw [hWq29] at HRq29 HBq29
     (try rw [hWq29])
     clear hWq29 lsq29
     have l30:=HRq29.out.head
     have l31:=HRq29.out.tail.head
     go_wp2_with (first
       | (refine yi l30 Tryz.underlying56 (zad _) ?_)
       | (refine yi l31 Tryz.underlying56 (zad _) ?_))
     obtain ⟨n32,Hn32,HLn32⟩:=ym (K:=PP) ((n27*n8) % PP) (Nat.mod_lt _ (by decide))
     have kq33:=fun W:World=>(rofN HLn27.out HLn8.out) W
     rw [Hn32.out] at kq33
     have Kq33:=yh kq33
     clear kq33
     with_reducible refine (Kq33.out _).mono ?_
     rintro e vq33 ⟨rfl,hbq33⟩
     have HRq33:=yh (HRq29.out.below hbq33)
     have HBq33:=yh (zaa HBq29.out hbq33)
     clear hbq33
     have lsq34:=HRq33.out.tail.tail.head
     have HRq34:Hid (RowsW (vq33.setRow (g0+1) (refP n27 n8 1 n32)) [(gq21,(refT n27),56),(gq10,(refT n8),56),((g0+1),(refP n27 n8 1 n32),58),(g0,(arrB l),22)]):=yh ⟨(by rw [setRow_other _ _ _ _ (Ne.symm NEq21_1.out)];exact HRq33.out.head),(by rw [setRow_other _ _ _ _ (Ne.symm NEq10_1.out)];exact HRq33.out.tail.head),setRow_heap _ _ _ _ _ _ lsq34,(by rw [setRow_other _ _ _ _ (by omega)];exact HRq33.out.tail.tail.tail.head),trivial⟩
     have HBq34:=yh (zab (g:=(g0+1)) (cs:=(refP n27 n8 1 n32)) HBq33.out (by have:=HG0.out;omega))
     go_wp2_with (refine yj (refP n27 n8 1 n32) lsq34 (zaC _ _ _ _) (zaW _ _ _ _ _ _ _ _) (zbj _ _ _ _) ?_)
     obtain ⟨Wq34,hWq34⟩:∃ W,vq33.setRow (g0+1) (refP n27 n8 1 n32)=W:=⟨_,rfl⟩
     rw [hWq34] at HRq34 HBq34
     (try rw [hWq34])
     clear hWq34 lsq34
     (try simp only [Exit.inBlock,Exit.then])
     refine bodyPost_ret (zaw rfl _ _ (g0+1) _ (refP n27 n8 1 n32) _ _ (.bool true) rfl rfl HRq34.out.tail.tail.head Tryz.underlying58 rfl (zaC _ _ _ _)) rfl ?_
     have e2:decF l=true:=decF_of HCA.out (by rw [Hn8.out];exact HFI.out) (by rw [(show ratN (upN (feN l)) (dnN (feN l))=n11 by rw [Hn8.out,Hn11.out])];intro e;exact absurd e HX0.out)
     have ex:decX l=n27:=by unfold decX;rw [(show ratN (upN (feN l)) (dnN (feN l))=n11 by rw [Hn8.out,Hn11.out]),HOD.out,← Hn27.out];rfl
     obtain ⟨ea,eb⟩:=decP_xy e2
     rw [ex] at ea
     rw [Hn8.out] at eb
     exact ⟨_,by rw [e2],⟨_,_,_,_,rfl,by rw [← Hn32.out];exact co_of ea eb⟩,HBq34.out⟩
 ·have HOD:Hid (decS l=false):=yh (by rw [HS.out];exact decide_eq_false ho)
  have d1:decide ((127:Int)<(t:Int))=false:=decide_eq_false (by omega)
  clear ho
  go_upto_region 2 with fail
  clear cx d1
  cases hcan:canN l
  ·have HCA:=yh hcan
   clear hcan
   have l35:=HR0.out.tail.head
   go_wp2_with (refine yi l35 Tryz.underlying22 (zah HL.out) ?_)
   have kq36:=fun W:World=>(rcanN l HL.out) W
   rw [HCA.out] at kq36
   have Kq36:=yh kq36
   clear kq36
   with_reducible refine (Kq36.out _).mono ?_
   rintro e vq36 ⟨rfl,hbq36⟩
   have HRq36:=yh (HR0.out.below hbq36)
   have HBq36:=yh (zaa HB0.out hbq36)
   clear hbq36
   go_upto_region 3 with fail
   go_wp2_with fail
   with_reducible refine (rzeroN _).mono ?_
   rintro e vq37 ⟨rfl,hbq37⟩
   have HRq37:=yh (HRq36.out.below hbq37)
   have HBq37:=yh (zaa HBq36.out hbq37)
   clear hbq37
   have lsq38:=HRq37.out.head
   have HRq38:Hid (RowsW (vq37.setRow (g0+1) (refP 0 1 1 0)) [((g0+1),(refP 0 1 1 0),58),(g0,(arrB l),22)]):=yh ⟨setRow_heap _ _ _ _ _ _ lsq38,(by rw [setRow_other _ _ _ _ (by omega)];exact HRq37.out.tail.head),trivial⟩
   have HBq38:=yh (zab (g:=(g0+1)) (cs:=(refP 0 1 1 0)) HBq37.out (by have:=HG0.out;omega))
   go_wp2_with (refine yj (refP 0 1 1 0) lsq38 (zaC _ _ _ _) (zaW _ _ _ _ _ _ _ _) (zbj _ _ _ _) ?_)
   obtain ⟨Wq38,hWq38⟩:∃ W,vq37.setRow (g0+1) (refP 0 1 1 0)=W:=⟨_,rfl⟩
   rw [hWq38] at HRq38 HBq38
   (try rw [hWq38])
   clear hWq38 lsq38
   (try simp only [Exit.inBlock,Exit.then])
   refine bodyPost_ret (zaw rfl _ _ (g0+1) _ (refP 0 1 1 0) _ _ (.bool false) rfl rfl HRq38.out.head Tryz.underlying58 rfl (zaC _ _ _ _)) rfl ?_
   have e2:decF l=false:=decF_can HCA.out
   have e1:=decP_no e2
   exact ⟨_,by rw [e2],by rw [e1];exact ⟨_,_,_,_,rfl,co_zero⟩,HBq38.out⟩
  ·have HCA:=yh hcan
   clear hcan
   have l39:=HR0.out.tail.head
   go_wp2_with (refine yi l39 Tryz.underlying22 (zah HL.out) ?_)
   have kq40:=fun W:World=>(rcanN l HL.out) W
   rw [HCA.out] at kq40
   have Kq40:=yh kq40
   clear kq40
   with_reducible refine (Kq40.out _).mono ?_
   rintro e vq40 ⟨rfl,hbq40⟩
   have HRq40:=yh (HR0.out.below hbq40)
   have HBq40:=yh (zaa HB0.out hbq40)
   clear hbq40
   go_upto_region 4 with fail
   have l41:=HRq40.out.tail.head
   go_wp2_with (refine yi l41 Tryz.underlying22 (zah HL.out) ?_)
   obtain ⟨n42,Hn42,HLn42⟩:=ym (K:=PP) (feN l) (Nat.mod_lt _ (by decide))
   have kq43:=fun W:World=>(rfromN l HL.out) W
   rw [Hn42.out] at kq43
   have Kq43:=yh kq43
   clear kq43
   with_reducible refine (Kq43.out _).mono ?_
   rintro e vq43 ⟨rfl,hbq43⟩
   have HRq43:=yh (HRq40.out.below hbq43)
   have HBq43:=yh (zaa HBq40.out hbq43)
   clear hbq43
   have h0q44:(vq43.alloc (.cells (refT 0) 56)).heap[vq43.heap.size]?=some (.cells (refT 0) 56 (0,0)):=heap_alloc_new _ _
   have HRq44:=yh (HRq43.out.new (refT 0) (refT n42) 56)
   have HBq44:=yh (zan HBq43.out (refT 0) (refT n42) 56)
   have HNq44:=yh HRq43.out.ne
   have HGq44:=yh HBq43.out.size
   go_upto_region 5 with (refine yj (refT n42) h0q44 (zad _) (zat _ _) (zav _) ?_)
   obtain ⟨Wq44,hWq44⟩:∃ W,(vq43.alloc (.cells (refT 0) 56)).setRow vq43.heap.size (refT n42)=W:=⟨_,rfl⟩
   obtain ⟨gq44,hgq44⟩:∃ g,vq43.heap.size=g:=⟨_,rfl⟩
   rw [hWq44,hgq44] at HRq44
   rw [hWq44] at HBq44
   rw [hgq44] at HNq44 HGq44
   rw [hWq44,hgq44]
   clear hWq44 hgq44 h0q44
   have NEq44_0:Hid (g0≠gq44):=yh (HNq44.out (g0,(arrB l),22) (by simp))
   have NEq44_1:Hid ((g0+1)≠gq44):=yh (HNq44.out ((g0+1),(refP 0 0 0 0),58) (by simp))
   obtain ⟨n45,Hn45,HLn45⟩:=ym (K:=PP) (ratN (upN n42) (dnN n42)) (ratN_lt _ _)
   cases hfi:fineN (upN n42) (dnN n42)
   ·have HFI:=yh hfi
    clear hfi
    have l46:=HRq44.out.head
    go_wp2_with (refine yi l46 Tryz.underlying56 (zad _) ?_)
    have Ht47:Hid (fineN (upN n42) (dnN n42)=false):=yh HFI.out
    have kq48:=fun W:World=>(rxofN HLn42.out) W
    rw [Hn45.out,Ht47.out] at kq48
    have Kq48:=yh kq48
    clear kq48
    with_reducible refine (Kq48.out _).mono ?_
    rintro e vq48 ⟨rfl,hbq48⟩
    have HRq48:=yh (HRq44.out.below hbq48)
    have HBq48:=yh (zaa HBq44.out hbq48)
    clear hbq48
    have h0q49:(vq48.alloc (.cells (refT 0) 56)).heap[vq48.heap.size]?=some (.cells (refT 0) 56 (0,0)):=heap_alloc_new _ _
    have HRq49:=yh (HRq48.out.new (refT 0) (refT n45) 56)
    have HBq49:=yh (zan HBq48.out (refT 0) (refT n45) 56)
    have HNq49:=yh HRq48.out.ne
    have HGq49:=yh HBq48.out.size
    go_upto_region 6 with (refine yj (refT n45) h0q49 (zad _) (zat _ _) (zav _) ?_)
    obtain ⟨Wq49,hWq49⟩:∃ W,(vq48.alloc (.cells (refT 0) 56)).setRow vq48.heap.size (refT n45)=W:=⟨_,rfl⟩
    obtain ⟨gq49,hgq49⟩:∃ g,vq48.heap.size=g:=⟨_,rfl⟩
    rw [hWq49,hgq49] at HRq49
    rw [hWq49] at HBq49
    rw [hgq49] at HNq49 HGq49
    rw [hWq49,hgq49]
    clear hWq49 hgq49 h0q49
    have NEq49_0:Hid (g0≠gq49):=yh (HNq49.out (g0,(arrB l),22) (by simp))
    have NEq49_1:Hid ((g0+1)≠gq49):=yh (HNq49.out ((g0+1),(refP 0 0 0 0),58) (by simp))
    have NEq49_2:Hid (gq44≠gq49):=yh (HNq49.out (gq44,(refT n42),56) (by simp))
    go_upto_region 7 with fail
    go_wp2_with fail
    with_reducible refine (rzeroN _).mono ?_
    rintro e vq50 ⟨rfl,hbq50⟩
    have HRq50:=yh (HRq49.out.below hbq50)
    have HBq50:=yh (zaa HBq49.out hbq50)
    clear hbq50
    have lsq51:=HRq50.out.tail.tail.head
    have HRq51:Hid (RowsW (vq50.setRow (g0+1) (refP 0 1 1 0)) [(gq49,(refT n45),56),(gq44,(refT n42),56),((g0+1),(refP 0 1 1 0),58),(g0,(arrB l),22)]):=yh ⟨(by rw [setRow_other _ _ _ _ (Ne.symm NEq49_1.out)];exact HRq50.out.head),(by rw [setRow_other _ _ _ _ (Ne.symm NEq44_1.out)];exact HRq50.out.tail.head),setRow_heap _ _ _ _ _ _ lsq51,(by rw [setRow_other _ _ _ _ (by omega)];exact HRq50.out.tail.tail.tail.head),trivial⟩
    have HBq51:=yh (zab (g:=(g0+1)) (cs:=(refP 0 1 1 0)) HBq50.out (by have:=HG0.out;omega))
    go_wp2_with (refine yj (refP 0 1 1 0) lsq51 (zaC _ _ _ _) (zaW _ _ _ _ _ _ _ _) (zbj _ _ _ _) ?_)
    obtain ⟨Wq51,hWq51⟩:∃ W,vq50.setRow (g0+1) (refP 0 1 1 0)=W:=⟨_,rfl⟩
    rw [hWq51] at HRq51 HBq51
    (try rw [hWq51])
    clear hWq51 lsq51
    (try simp only [Exit.inBlock,Exit.then])
    refine bodyPost_ret (zaw rfl _ _ (g0+1) _ (refP 0 1 1 0) _ _ (.bool false) rfl rfl HRq51.out.tail.tail.head Tryz.underlying58 rfl (zaC _ _ _ _)) rfl ?_
    have e2:decF l=false:=decF_fine (by rw [Hn42.out];exact HFI.out)
    have e1:=decP_no e2
    exact ⟨_,by rw [e2],by rw [e1];exact ⟨_,_,_,_,rfl,co_zero⟩,HBq51.out⟩
   ·have HFI:=yh hfi
    clear hfi
    have l52:=HRq44.out.head
    go_wp2_with (refine yi l52 Tryz.underlying56 (zad _) ?_)
    have Ht53:Hid (fineN (upN n42) (dnN n42)=true):=yh HFI.out
    have kq54:=fun W:World=>(rxofN HLn42.out) W
    rw [Hn45.out,Ht53.out] at kq54
    have Kq54:=yh kq54
    clear kq54
    with_reducible refine (Kq54.out _).mono ?_
    rintro e vq54 ⟨rfl,hbq54⟩
    have HRq54:=yh (HRq44.out.below hbq54)
    have HBq54:=yh (zaa HBq44.out hbq54)
    clear hbq54
    have h0q55:(vq54.alloc (.cells (refT 0) 56)).heap[vq54.heap.size]?=some (.cells (refT 0) 56 (0,0)):=heap_alloc_new _ _
    have HRq55:=yh (HRq54.out.new (refT 0) (refT n45) 56)
    have HBq55:=yh (zan HBq54.out (refT 0) (refT n45) 56)
    have HNq55:=yh HRq54.out.ne
    have HGq55:=yh HBq54.out.size
    go_upto_region 6 with (refine yj (refT n45) h0q55 (zad _) (zat _ _) (zav _) ?_)
    obtain ⟨Wq55,hWq55⟩:∃ W,(vq54.alloc (.cells (refT 0) 56)).setRow vq54.heap.size (refT n45)=W:=⟨_,rfl⟩
    obtain ⟨gq55,hgq55⟩:∃ g,vq54.heap.size=g:=⟨_,rfl⟩
    rw [hWq55,hgq55] at HRq55
    rw [hWq55] at HBq55
    rw [hgq55] at HNq55 HGq55
    rw [hWq55,hgq55]
    clear hWq55 hgq55 h0q55
    have NEq55_0:Hid (g0≠gq55):=yh (HNq55.out (g0,(arrB l),22) (by simp))
    have NEq55_1:Hid ((g0+1)≠gq55):=yh (HNq55.out ((g0+1),(refP 0 0 0 0),58) (by simp))
    have NEq55_2:Hid (gq44≠gq55):=yh (HNq55.out (gq44,(refT n42),56) (by simp))
    by_cases hx0:n45=0
    ·have HX0:=yh hx0
     clear hx0
     have l56:=HRq55.out.head
     go_upto_region 8 with (first
       | (refine zaj (o:=⟨some 25,_,_,_,_,_⟩) rfl (.agg (refT n45)) (zac rfl rfl l56 Tryz.underlying56 rfl (zad _)) ?_)
       | (refine zaj (o:=⟨some 27,_,_,_,_,_⟩) rfl (.bool true) (za2 rfl rfl rfl guardR (eqRefT HLn45.out (show 0<PP by decide) (HX0.out) _)) ?_))
     go_upto_region 10 with fail
     have l57:=HRq55.out.head
     have l58:=HRq55.out.tail.head
     go_wp2_with (first
       | (refine yi l57 Tryz.underlying56 (zad _) ?_)
       | (refine yi l58 Tryz.underlying56 (zad _) ?_))
     obtain ⟨n59,Hn59,HLn59⟩:=ym (K:=PP) ((n45*n42) % PP) (Nat.mod_lt _ (by decide))
     have kq60:=fun W:World=>(rofN HLn45.out HLn42.out) W
     rw [Hn59.out] at kq60
     have Kq60:=yh kq60
     clear kq60
     with_reducible refine (Kq60.out _).mono ?_
     rintro e vq60 ⟨rfl,hbq60⟩
     have HRq60:=yh (HRq55.out.below hbq60)
     have HBq60:=yh (zaa HBq55.out hbq60)
     clear hbq60
     have lsq61:=HRq60.out.tail.tail.head
     have HRq61:Hid (RowsW (vq60.setRow (g0+1) (refP n45 n42 1 n59)) [(gq55,(refT n45),56),(gq44,(refT n42),56),((g0+1),(refP n45 n42 1 n59),58),(g0,(arrB l),22)]):=yh ⟨(by rw [setRow_other _ _ _ _ (Ne.symm NEq55_1.out)];exact HRq60.out.head),(by rw [setRow_other _ _ _ _ (Ne.symm NEq44_1.out)];exact HRq60.out.tail.head),setRow_heap _ _ _ _ _ _ lsq61,(by rw [setRow_other _ _ _ _ (by omega)];exact HRq60.out.tail.tail.tail.head),trivial⟩
     have HBq61:=yh (zab (g:=(g0+1)) (cs:=(refP n45 n42 1 n59)) HBq60.out (by have:=HG0.out;omega))
     go_wp2_with (refine yj (refP n45 n42 1 n59) lsq61 (zaC _ _ _ _) (zaW _ _ _ _ _ _ _ _) (zbj _ _ _ _) ?_)
     obtain ⟨Wq61,hWq61⟩:∃ W,vq60.setRow (g0+1) (refP n45 n42 1 n59)=W:=⟨_,rfl⟩
     rw [hWq61] at HRq61 HBq61
     (try rw [hWq61])
     clear hWq61 lsq61
     (try simp only [Exit.inBlock,Exit.then])
     refine bodyPost_ret (zaw rfl _ _ (g0+1) _ (refP n45 n42 1 n59) _ _ (.bool true) rfl rfl HRq61.out.tail.tail.head Tryz.underlying58 rfl (zaC _ _ _ _)) rfl ?_
     have e2:decF l=true:=decF_of HCA.out (by rw [Hn42.out];exact HFI.out) (by rw [(show ratN (upN (feN l)) (dnN (feN l))=n45 by rw [Hn42.out,Hn45.out])];intro _;exact HOD.out)
     have ex:decX l=n45:=by unfold decX;rw [(show ratN (upN (feN l)) (dnN (feN l))=n45 by rw [Hn42.out,Hn45.out]),HOD.out];rfl
     obtain ⟨ea,eb⟩:=decP_xy e2
     rw [ex] at ea
     rw [Hn42.out] at eb
     exact ⟨_,by rw [e2],⟨_,_,_,_,rfl,by rw [← Hn59.out];exact co_of ea eb⟩,HBq61.out⟩
    ·have HX0:=yh hx0
     clear hx0
     have l62:=HRq55.out.head
     go_upto_region 8 with (first
       | (refine zaj (o:=⟨some 25,_,_,_,_,_⟩) rfl (.agg (refT n45)) (zac rfl rfl l62 Tryz.underlying56 rfl (zad _)) ?_)
       | (refine zaj (o:=⟨some 27,_,_,_,_,_⟩) rfl (.bool false) (za2 rfl rfl rfl guardR (eqRefF HLn45.out (show 0<PP by decide) (HX0.out) _)) ?_))
     go_upto_region 10 with fail
     have l63:=HRq55.out.head
     have l64:=HRq55.out.tail.head
     go_wp2_with (first
       | (refine yi l63 Tryz.underlying56 (zad _) ?_)
       | (refine yi l64 Tryz.underlying56 (zad _) ?_))
     obtain ⟨n65,Hn65,HLn65⟩:=ym (K:=PP) ((n45*n42) % PP) (Nat.mod_lt _ (by decide))
     have kq66:=fun W:World=>(rofN HLn45.out HLn42.out) W
     rw [Hn65.out] at kq66
     have Kq66:=yh kq66
     clear kq66
     with_reducible refine (Kq66.out _).mono ?_
     rintro e vq66 ⟨rfl,hbq66⟩
     have HRq66:=yh (HRq55.out.below hbq66)
     have HBq66:=yh (zaa HBq55.out hbq66)
     clear hbq66
     have lsq67:=HRq66.out.tail.tail.head
     have HRq67:Hid (RowsW (vq66.setRow (g0+1) (refP n45 n42 1 n65)) [(gq55,(refT n45),56),(gq44,(refT n42),56),((g0+1),(refP n45 n42 1 n65),58),(g0,(arrB l),22)]):=yh ⟨(by rw [setRow_other _ _ _ _ (Ne.symm NEq55_1.out)];exact HRq66.out.head),(by rw [setRow_other _ _ _ _ (Ne.symm NEq44_1.out)];exact HRq66.out.tail.head),setRow_heap _ _ _ _ _ _ lsq67,(by rw [setRow_other _ _ _ _ (by omega)];exact HRq66.out.tail.tail.tail.head),trivial⟩
     have HBq67:=yh (zab (g:=(g0+1)) (cs:=(refP n45 n42 1 n65)) HBq66.out (by have:=HG0.out;omega))
     go_wp2_with (refine yj (refP n45 n42 1 n65) lsq67 (zaC _ _ _ _) (zaW _ _ _ _ _ _ _ _) (zbj _ _ _ _) ?_)
     obtain ⟨Wq67,hWq67⟩:∃ W,vq66.setRow (g0+1) (refP n45 n42 1 n65)=W:=⟨_,rfl⟩
     rw [hWq67] at HRq67 HBq67
     (try rw [hWq67])
     clear hWq67 lsq67
     (try simp only [Exit.inBlock,Exit.then])
     refine bodyPost_ret (zaw rfl _ _ (g0+1) _ (refP n45 n42 1 n65) _ _ (.bool true) rfl rfl HRq67.out.tail.tail.head Tryz.underlying58 rfl (zaC _ _ _ _)) rfl ?_
     have e2:decF l=true:=decF_of HCA.out (by rw [Hn42.out];exact HFI.out) (by rw [(show ratN (upN (feN l)) (dnN (feN l))=n45 by rw [Hn42.out,Hn45.out])];intro _;exact HOD.out)
     have ex:decX l=n45:=by unfold decX;rw [(show ratN (upN (feN l)) (dnN (feN l))=n45 by rw [Hn42.out,Hn45.out]),HOD.out];rfl
     obtain ⟨ea,eb⟩:=decP_xy e2
     rw [ex] at ea
     rw [Hn42.out] at eb
     exact ⟨_,by rw [e2],⟨_,_,_,_,rfl,by rw [← Hn65.out];exact co_of ea eb⟩,HBq67.out⟩
theorem rencodeN {X1 Y1 Z1 T1:Nat} {p:PtD} (h1:Co X1 Y1 Z1 T1 p) (w:World):Calls Tryz.prog 31 #[.agg (refP X1 Y1 Z1 T1)] w (RetV w (.agg (bytT (F25519.encN p)))):=by
 have HC1:=yh h1
 clear h1
 have hzR:=za6
 have hz32:=zao
 have hzP:=zbd
 have HR0:=yh (((RowsW.nil w).box (refP X1 Y1 Z1 T1) 58).box zai 22)
 have HB0:=yh (zaf (zaf (Below.refl w.heap.size w) (refP X1 Y1 Z1 T1) 58) zai 22)
 rw [World.size_alloc] at HR0
 go_enter Tryz.func31,Tryz.ntmps31
 go_upto_region 1 with fail
 obtain ⟨W0,hW0⟩:∃ W,((w.alloc (.cells (refP X1 Y1 Z1 T1) 58)).alloc (.cells zai 22))=W:=⟨_,rfl⟩
 obtain ⟨g0,hg0⟩:∃ g,w.heap.size=g:=⟨_,rfl⟩
 rw [hW0] at HR0 HB0
 rw [hg0] at HR0
 rw [hW0,hg0]
 have HG0:=yh hg0
 clear hW0 hg0
 obtain ⟨CX,CY⟩:=co_enc HC1.out
 have l1:=HR0.out.tail.head
 go_wp2_with (refine zaj (o:=⟨some 6,_,_,_,_,_⟩) rfl (.agg (refT Z1)) (zak rfl rfl l1 Tryz.underlying56 rfl (zad Z1) (refP_2 _ _ _ _)) ?_)
 obtain ⟨n2,Hn2,HLn2⟩:=ym (K:=PP) (invN Z1) (invN_lt _)
 have kq3:=fun W:World=>(rinvN HC1.out.z) W
 rw [Hn2.out] at kq3
 have Kq3:=yh kq3
 clear kq3
 with_reducible refine (Kq3.out _).mono ?_
 rintro e vq3 ⟨rfl,hbq3⟩
 have HRq3:=yh (HR0.out.below hbq3)
 have HBq3:=yh (zaa HB0.out hbq3)
 clear hbq3
 have h0q4:(vq3.alloc (.cells (refT 0) 56)).heap[vq3.heap.size]?=some (.cells (refT 0) 56 (0,0)):=heap_alloc_new _ _
 have HRq4:=yh (HRq3.out.new (refT 0) (refT n2) 56)
 have HBq4:=yh (zan HBq3.out (refT 0) (refT n2) 56)
 have HNq4:=yh HRq3.out.ne
 have HGq4:=yh HBq3.out.size
 go_upto_region 2 with (refine yj (refT n2) h0q4 (zad _) (zat _ _) (zav _) ?_)
 obtain ⟨Wq4,hWq4⟩:∃ W,(vq3.alloc (.cells (refT 0) 56)).setRow vq3.heap.size (refT n2)=W:=⟨_,rfl⟩
 obtain ⟨gq4,hgq4⟩:∃ g,vq3.heap.size=g:=⟨_,rfl⟩
 rw [hWq4,hgq4] at HRq4
 rw [hWq4] at HBq4
 rw [hgq4] at HNq4 HGq4
 rw [hWq4,hgq4]
 clear hWq4 hgq4 h0q4
 have NEq4_0:Hid (g0≠gq4):=yh (HNq4.out (g0,(refP X1 Y1 Z1 T1),58) (by simp))
 have NEq4_1:Hid ((g0+1)≠gq4):=yh (HNq4.out ((g0+1),zai,22) (by simp))
 have l5:=HRq4.out.tail.tail.head
 have l6:=HRq4.out.head
 go_wp2_with (first
   | (refine zaj (o:=⟨some 9,_,_,_,_,_⟩) rfl (.agg (refT Y1)) (zak rfl rfl l5 Tryz.underlying56 rfl (zad Y1) (refP_1 _ _ _ _)) ?_)
   | (refine yi l6 Tryz.underlying56 (zad _) ?_))
 obtain ⟨n7,Hn7,HLn7⟩:=ym (K:=PP) ((Y1*n2) % PP) (Nat.mod_lt _ (by decide))
 have kq8:=fun W:World=>(rmulN HC1.out.y HLn2.out) W
 rw [Hn7.out] at kq8
 have Kq8:=yh kq8
 clear kq8
 with_reducible refine (Kq8.out _).mono ?_
 rintro e vq8 ⟨rfl,hbq8⟩
 have HRq8:=yh (HRq4.out.below hbq8)
 have HBq8:=yh (zaa HBq4.out hbq8)
 clear hbq8
 go_wp2_with fail
 with_reducible refine ((rbytesN n7) _).mono ?_
 rintro e vq9 ⟨rfl,hbq9⟩
 have HRq9:=yh (HRq8.out.below hbq9)
 have HBq9:=yh (zaa HBq8.out hbq9)
 clear hbq9
 have h0q10:(vq9.alloc (.cells zai 22)).heap[vq9.heap.size]?=some (.cells zai 22 (0,0)):=heap_alloc_new _ _
 have HRq10:=yh (HRq9.out.new zai (bytT n7) 22)
 have HBq10:=yh (zan HBq9.out zai (bytT n7) 22)
 have HNq10:=yh HRq9.out.ne
 have HGq10:=yh HBq9.out.size
 go_upto_region 3 with (refine yj (bytT n7) h0q10 (zaO _) (zbc _) (zbJ _) ?_)
 obtain ⟨Wq10,hWq10⟩:∃ W,(vq9.alloc (.cells zai 22)).setRow vq9.heap.size (bytT n7)=W:=⟨_,rfl⟩
 obtain ⟨gq10,hgq10⟩:∃ g,vq9.heap.size=g:=⟨_,rfl⟩
 rw [hWq10,hgq10] at HRq10
 rw [hWq10] at HBq10
 rw [hgq10] at HNq10 HGq10
 rw [hWq10,hgq10]
 clear hWq10 hgq10 h0q10
 have NEq10_0:Hid (g0≠gq10):=yh (HNq10.out (g0,(refP X1 Y1 Z1 T1),58) (by simp))
 have NEq10_1:Hid ((g0+1)≠gq10):=yh (HNq10.out ((g0+1),zai,22) (by simp))
 have NEq10_2:Hid (gq4≠gq10):=yh (HNq10.out (gq4,(refT n2),56) (by simp))
 obtain ⟨n11,Hn11,HLn11⟩:=ym (K:=PP) ((X1*n2) % PP) (Nat.mod_lt _ (by decide))
 have HX:Hid (n11=p.x.val):=yh (by rw [← Hn11.out,← Hn2.out];exact CX)
 have HY:Hid (n7=p.y.val):=yh (by rw [← Hn7.out,← Hn2.out];exact CY)
 clear CX CY
 by_cases ho:n11 % 2=1
 ·have HO:=yh ho
  clear ho
  have l12:=HRq10.out.tail.tail.tail.head
  have l13:=HRq10.out.tail.head
  go_wp2_with (first
    | (refine zaj (o:=⟨some 14,_,_,_,_,_⟩) rfl (.agg (refT X1)) (zak rfl rfl l12 Tryz.underlying56 rfl (zad X1) (refP_0 _ _ _ _)) ?_)
    | (refine yi l13 Tryz.underlying56 (zad _) ?_))
  have kq14:=fun W:World=>(rmulN HC1.out.x HLn2.out) W
  rw [Hn11.out] at kq14
  have Kq14:=yh kq14
  clear kq14
  with_reducible refine (Kq14.out _).mono ?_
  rintro e vq14 ⟨rfl,hbq14⟩
  have HRq14:=yh (HRq10.out.below hbq14)
  have HBq14:=yh (zaa HBq10.out hbq14)
  clear hbq14
  go_wp2_with fail
  have Ht15:Hid (decide (n11 % 2=1)=true):=yh (decide_eq_true HO.out)
  have kq16:=fun W:World=>(roddN n11) W
  rw [Ht15.out] at kq16
  have Kq16:=yh kq16
  clear kq16
  with_reducible refine (Kq16.out _).mono ?_
  rintro e vq16 ⟨rfl,hbq16⟩
  have HRq16:=yh (HRq14.out.below hbq16)
  have HBq16:=yh (zaa HBq14.out hbq16)
  clear hbq16
  go_upto_region 4 with fail
  obtain ⟨t,ht⟩:∃ t,((leB 32 n7).getD 31 0).toNat=t:=⟨_,rfl⟩
  have htl:t<128:=by rw [← ht,leB_get 32 n7 31 (by omega)];have h:=HLn7.out;rw [P31];unfold PP at h;simp;omega
  have cx:vq16.cell? ⟨gq10,31,none⟩=some (.int .u8 (t:Int)):=by rw [cell_of_row _ _ _ _ _ _ HRq16.out.head,bytT_get _ _ (by omega),ht]
  have fx:=za4 HRq16.out.head 31
  have e128:(((leB 32 n7).getD 31 0+128).toNat:Int)=((t+128:Nat):Int):=by rw [UInt8.toNat_add,ht];simp;omega
  have hs:=HRq16.out.set HNq10.out 31 (.int .u8 (((leB 32 n7).getD 31 0+128).toNat:Int))
  rw [show bytT n7=arrB (leB 32 n7) from rfl,za3,e128] at hs
  have hb9:=HBq16.out.setCell (p:=⟨gq10,31,none⟩) (by show w.heap.size≤gq10;exact HGq10.out) (.int .u8 ((t+128:Nat):Int))
  have t1:IntKind.u8.wrap ((t:Int)+128)=((t+128:Nat):Int):=by rw [IntKind.wrap_u8];omega
  have t2:(t:Int)+128=((t+128:Nat):Int):=by omega
  have t3:((t+128:Nat):Int) % 256=((t+128:Nat):Int):=by omega
  obtain ⟨t9,ht9⟩:∃ t9:Nat,t+128=t9:=⟨_,rfl⟩
  rw [ht9] at hs hb9 t1 t2 t3
  have HE9:Hid (arrB (leB 32 (F25519.encN p))=arrB ((leB 32 n7).set 31 ((leB 32 n7).getD 31 0+128))):=yh (by rw [enc_bytes,if_pos (by rw [← HX.out];exact HO.out),← HY.out])
  have iA:(Tryz.prog.info? 22).map (·.size)=some (arrB ((leB 32 n7).set 31 ((leB 32 n7).getD 31 0+128))).size:=zah (by rw [List.length_set,zaq])
  have zA:zai.size=(arrB ((leB 32 n7).set 31 ((leB 32 n7).getD 31 0+128))).size:=zaG (by rw [List.length_set,zaq])
  have oA:=zax ((leB 32 n7).set 31 ((leB 32 n7).getD 31 0+128))
  generalize arrB ((leB 32 n7).set 31 ((leB 32 n7).getD 31 0+128))=A9 at *
  obtain ⟨W9,hW9⟩:∃ W9,vq16.setCell ⟨gq10,31,none⟩ (.int .u8 (t9:Int))=W9:=⟨_,rfl⟩
  rw [hW9] at hs hb9
  have HR9:=yh hs
  have HB9:=yh hb9
  have HW9:=yh hW9
  clear hs hb9 hW9 ht e128 ht9 htl
  go_upto_region 5 with fail
  rw [HW9.out]
  clear HW9 cx fx t1 t2 t3
  have l17:=HR9.out.head
  have lsq18:=HR9.out.tail.tail.head
  have HRq18:Hid (RowsW (W9.setRow (g0+1) A9) [(gq10,A9,22),(gq4,(refT n2),56),((g0+1),A9,22),(g0,(refP X1 Y1 Z1 T1),58)]):=yh ⟨(by rw [setRow_other _ _ _ _ (Ne.symm NEq10_1.out)];exact HR9.out.head),(by rw [setRow_other _ _ _ _ (Ne.symm NEq4_1.out)];exact HR9.out.tail.head),setRow_heap _ _ _ _ _ _ lsq18,(by rw [setRow_other _ _ _ _ (by omega)];exact HR9.out.tail.tail.tail.head),trivial⟩
  have HBq18:=yh (zab (g:=(g0+1)) (cs:=A9) HB9.out (by have:=HG0.out;omega))
  go_wp2_with (first
    | (refine yi l17 Tryz.underlying22 iA ?_)
    | (refine yj A9 lsq18 iA zA oA ?_))
  obtain ⟨Wq18,hWq18⟩:∃ W,W9.setRow (g0+1) A9=W:=⟨_,rfl⟩
  rw [hWq18] at HRq18 HBq18
  (try rw [hWq18])
  clear hWq18 lsq18
  (try simp only [Exit.inBlock,Exit.then])
  refine bodyPost_ret (results_cell_row rfl _ _ (g0+1) _ A9 _ _ rfl HRq18.out.tail.tail.head Tryz.underlying22 rfl iA) rfl ?_
  exact ⟨by rw [show bytT (F25519.encN p)=A9 from HE9.out],HBq18.out⟩
 ·have HO:=yh ho
  clear ho
  have l19:=HRq10.out.tail.tail.tail.head
  have l20:=HRq10.out.tail.head
  go_wp2_with (first
    | (refine zaj (o:=⟨some 14,_,_,_,_,_⟩) rfl (.agg (refT X1)) (zak rfl rfl l19 Tryz.underlying56 rfl (zad X1) (refP_0 _ _ _ _)) ?_)
    | (refine yi l20 Tryz.underlying56 (zad _) ?_))
  have kq21:=fun W:World=>(rmulN HC1.out.x HLn2.out) W
  rw [Hn11.out] at kq21
  have Kq21:=yh kq21
  clear kq21
  with_reducible refine (Kq21.out _).mono ?_
  rintro e vq21 ⟨rfl,hbq21⟩
  have HRq21:=yh (HRq10.out.below hbq21)
  have HBq21:=yh (zaa HBq10.out hbq21)
  clear hbq21
  go_wp2_with fail
  have Ht22:Hid (decide (n11 % 2=1)=false):=yh (decide_eq_false HO.out)
  have kq23:=fun W:World=>(roddN n11) W
  rw [Ht22.out] at kq23
  have Kq23:=yh kq23
  clear kq23
  with_reducible refine (Kq23.out _).mono ?_
  rintro e vq23 ⟨rfl,hbq23⟩
  have HRq23:=yh (HRq21.out.below hbq23)
  have HBq23:=yh (zaa HBq21.out hbq23)
  clear hbq23
  go_upto_region 5 with fail
  have l24:=HRq23.out.head
  have lsq25:=HRq23.out.tail.tail.head
  have HRq25:Hid (RowsW (vq23.setRow (g0+1) (bytT n7)) [(gq10,(bytT n7),22),(gq4,(refT n2),56),((g0+1),(bytT n7),22),(g0,(refP X1 Y1 Z1 T1),58)]):=yh ⟨(by rw [setRow_other _ _ _ _ (Ne.symm NEq10_1.out)];exact HRq23.out.head),(by rw [setRow_other _ _ _ _ (Ne.symm NEq4_1.out)];exact HRq23.out.tail.head),setRow_heap _ _ _ _ _ _ lsq25,(by rw [setRow_other _ _ _ _ (by omega)];exact HRq23.out.tail.tail.tail.head),trivial⟩
  have HBq25:=yh (zab (g:=(g0+1)) (cs:=(bytT n7)) HBq23.out (by have:=HG0.out;omega))
  go_wp2_with (first
    | (refine yi l24 Tryz.underlying22 (zaO _) ?_)
    | (refine yj (bytT n7) lsq25 (zaO _) (zbc _) (zbJ _) ?_))
  obtain ⟨Wq25,hWq25⟩:∃ W,vq23.setRow (g0+1) (bytT n7)=W:=⟨_,rfl⟩
  rw [hWq25] at HRq25 HBq25
  (try rw [hWq25])
  clear hWq25 lsq25
  (try simp only [Exit.inBlock,Exit.then])
  refine bodyPost_ret (results_cell_row rfl _ _ (g0+1) _ (bytT n7) _ _ rfl HRq25.out.tail.tail.head Tryz.underlying22 rfl (zaO _)) rfl ?_
  exact ⟨by rw [show bytT (F25519.encN p)=(bytT n7) from by { unfold bytT;rw [enc_bytes,if_neg (by rw [← HX.out];exact HO.out),← HY.out] }],HBq25.out⟩
theorem rencode_any {c:Array Value} {p:PtD} (h:RQ c p) (w:World):Calls Tryz.prog 31 #[.agg c] w (RetV w (.agg (bytT (F25519.encN p)))):=by
 obtain ⟨X,Y,Z,T,rfl,hc⟩:=h
 exact rencodeN hc w
section
variable {P:Program} {ops:Array Oper} {Q:Exit→Act→World→Prop} {md:Region.Mode} {w0:World} {A p:Nat} {T:TypeId} {Z:Array Value} {S:World→Prop}
structure SOk (w0:World) (T:TypeId) (Z:Array Value) (S:World→Prop):Prop where
 low:∀ W,S W→Below w0.heap.size w0 W
 next:∀ W W',S W→Below W.heap.size W W'→S W'
 row:∀ W g cs,S W→W.heap[g]?=some (.cells Z T (0,0))→w0.heap.size≤g→S (W.setRow g cs)
theorem SOk.below (w0:World) (T:TypeId) (Z:Array Value):SOk w0 T Z (fun W=>Below w0.heap.size w0 W) :=
 ⟨fun W h=>h,fun W W' h hb=>h.trans (hb.mono h.size),fun W g cs h _ hg=>zab h hg⟩
def HS (w0:World) (T:TypeId) (Z:Array Value) (S:World→Prop) (o:Option Nat) (W:World):Prop :=
 S W∧∀ g,o=some g→w0.heap.size≤g∧W.heap[g]?=some (.cells Z T (0,0))
def XS (P:Program) (md:Region.Mode) (ops:Array Oper) (Q:Exit→Act→World→Prop) (S:World→Prop) (A p:Nat):Option Nat→Nat→Array Bool→Act→World→Prop
 | none,f,listed,a,W=>wpAnyH P md ops Q S (f+1) listed a W
 | some g,f,listed,a,W=>wpAnyH P md ops Q S f (listed.setIfInBounds A true) (a.put (some p) (.pointer (some ⟨g,0,none⟩))) W
theorem HS.s {o:Option Nat} {W:World} (h:HS w0 T Z S o W):S W:=And.left h
theorem XS.mono {S2:World→Prop} (hS:∀ w,S2 w→S w) {o:Option Nat} {f:Nat} {listed:Array Bool} {a:Act} {W:World} (h:XS P md ops Q S2 A p o f listed a W):XS P md ops Q S A p o f listed a W:=by
 cases o with
 | none=>exact held_mono hS _ _ _ _ h
 | some g=>exact held_mono hS _ _ _ _ h
theorem HS.al (ok:SOk w0 T Z S) {o:Option Nat} {W:World} (h:HS w0 T Z S o W):HS w0 T Z S (some W.heap.size) (W.alloc (.cells Z T)) :=
 ⟨ok.next _ _ h.1 ((Below.refl _ _).alloc (Nat.le_refl _) _),fun g e=>by injection e with e;subst e;exact ⟨(ok.low _ h.1).size,heap_alloc_new _ _⟩⟩
theorem HS.next (ok:SOk w0 T Z S) {o:Option Nat} {W W':World} (h:HS w0 T Z S o W) (hb:Below W.heap.size W W'):HS w0 T Z S o W' :=
 ⟨ok.next _ _ h.1 hb,fun g e=>⟨(h.2 g e).1,by rw [hb.block _ (Array.getElem?_eq_some_iff.1 (h.2 g e).2).1];exact (h.2 g e).2⟩⟩
theorem zbB {id:Nat} {a:Act} {w:World} (A p:Nat) (T:TypeId) (Z:Array Value) (hm:P.follows .mixedOrders=true) (h0:decide (0<ops.size)=true) (hA:AllocAt P ops Q A p T Z)
  (h:AllocAt P ops Q A p T Z→SOk w T Z (fun W=>Below w.heap.size w W)→HS w T Z (fun W=>Below w.heap.size w W) none w.drew→XS P .any ops Q (fun W=>Below w.heap.size w W) A p none (ops.size-1) (Array.replicate ops.size false) a w.drew):(Code.region id ops true).wp P Q a w:=by
 have hb:Below w.heap.size w w.drew:=(Below.refl _ _).drew
 have hn:=of_decide_eq_true h0
 refine wp_region_held (S:=fun W=>Below w.heap.size w W) hm ?_
 have:=h hA (SOk.below w T Z) ⟨hb,fun g e=>by cases e⟩
 have hk:(ops.size-1)+1=ops.size:=by omega
 simp only [XS] at this
 rw [hk] at this
 exact this
theorem zbh (i:Nat) {d:Nat} {op:Op} {ty:TypeId} {pos:String} {after:Array Edge} {guard:Option (Nat × Bool)} {v:Value} {f:Nat} {listed:Array Bool} {l l':List Value} {df:List Deferred} {o:Option Nat} {W:World}
  (hA:AllocAt P ops Q A p T Z) (ok:SOk w0 T Z S)
  (hi:ops[i]?=some ⟨some d,op,ty,pos,after,guard⟩)
  (hf:Region.free md ops listed i=true) (hf1:Region.free md ops (listed.setIfInBounds A true) i=true)
  (hr:(Region.ready md ops listed).contains i=true) (hr1:(Region.ready md ops (listed.setIfInBounds A true)).contains i=true)
  (hap:(ops[A]?.map fun oA=>oA.apart ops ⟨some d,op,ty,pos,after,guard⟩)=some true) (hAi:(A != i)=true)
  (hw:Region.wanted ⟨some d,op,ty,pos,after,guard⟩ (yielded ops l.toArray)=true) (hS:HS w0 T Z S o W)
  (hy:∀ W,S W→(execOp (Act.eval ⟨l.toArray,df⟩) ⟨some d,op,ty,pos,after,guard⟩).run P W=.ok (.value v) W)
  (hl:l.set d v=l')
  (h:XS P md ops Q S A p o f (listed.setIfInBounds i true) ⟨l'.toArray,df⟩ W):XS P md ops Q S A p o (f+1) listed ⟨l.toArray,df⟩ W:=by
 have hp:∀ (c:List PanicEntry) (a:Act) (w:World),Q (.panic c) (a.put (some d) v) w→Q (.panic c) a w:=fun c a w h=>(hA.q _ _ _ h).elim
 obtain ⟨oA,hoA⟩:∃ oA,ops[A]?=some oA:=by
  cases hq:ops[A]? with
  | none=>have:=hA.at_;rw [hq] at this;cases this
  | some oA=>exact ⟨oA,rfl⟩
 have e1:=hA.at_
 rw [hoA] at e1 hap
 simp only [Option.map_some,Option.some.injEq,Prod.mk.injEq] at e1 hap
 obtain ⟨h1,h2,h3⟩:=Oper.apart_spec hap
 subst hl
 cases o with
 | none =>
  unfold XS at *
  refine wpAnyH_take hi hA.sel hf hr hp (.inl ⟨hw,hy⟩) hS.1 ?_
  simpa [Act.put] using h
 | some g =>
  unfold XS at *
  have hsel:=Region.noSelect_spec hA.sel
  refine wpAnyH_take (v:=v) hi hA.sel hf1 hr1 hp ?_ hS.1 ?_
  ·have hy0:YieldsIf P ops S ⟨some d,op,ty,pos,after,guard⟩ v ⟨l.toArray,df⟩:=.inl ⟨hw,hy⟩
   rw [e1.2.1] at h1
   exact hy0.of_same (execOp_put _ (fun cs b=>hsel i _ cs b hi) _ _ _ h1) (wanted_put _ _ _ _ h1)
  ·rw [e1.2.1] at h2
   rw [Act.put_comm _ _ _ h2,Array.setIfInBounds_comm _ _ (by simpa using hAi)]
   simpa [Act.put] using h
theorem zbG (i:Nat) {d:Option Tmp} {op:Op} {ty:TypeId} {pos:String} {after:Array Edge} {guard:Option (Nat × Bool)} {f:Nat} {listed:Array Bool} {a:Act} {o:Option Nat} {W:World}
  (hA:AllocAt P ops Q A p T Z) (ok:SOk w0 T Z S)
  (hi:ops[i]?=some ⟨d,op,ty,pos,after,guard⟩)
  (hr:((Region.ready md ops listed).all fun j=>j == i||j == A)=true) (hr0:(Region.ready md ops listed).isEmpty=false) (hr1:Region.ready md ops (listed.setIfInBounds A true)=[i])
  (hap:(ops[A]?.map fun oA=>oA.apart ops ⟨d,op,ty,pos,after,guard⟩)=some true) (hAi:(A != i)=true)
  (hw:Region.wanted ⟨d,op,ty,pos,after,guard⟩ (yielded ops a.tmps)=true) (hS:HS w0 T Z S o W)
  (h:∀ (o:Option Nat) (W:World),HS w0 T Z S o W→∀ K':Act→World→Prop,
   Shut (∀ a' W',Below W.heap.size W W'→(HS w0 T Z S o W'→XS P md ops Q S A p o f (listed.setIfInBounds i true) a' W')→K' a' W')→Oper.wp P ⟨d,op,ty,pos,after,guard⟩ a W K' Q) :
  XS P md ops Q S A p o (f+1) listed a W:=by
 obtain ⟨oA,hoA⟩:∃ oA,ops[A]?=some oA:=by
  cases hq:ops[A]? with
  | none=>have:=hA.at_;rw [hq] at this;cases this
  | some oA=>exact ⟨oA,rfl⟩
 have e1:=hA.at_
 rw [hoA] at e1 hap
 simp only [Option.map_some,Option.some.injEq,Prod.mk.injEq] at e1 hap
 have hne:A≠i:=by simpa using hAi
 have hsel:=Region.noSelect_spec hA.sel
 have hwA:∀ a:Act,Region.wanted oA (yielded ops a.tmps)=true:=fun a=>by unfold Region.wanted;rw [e1.2.2]
 have some_:∀ g W,HS w0 T Z S (some g) W→XS P md ops Q S A p (some g) (f+1) listed a W:=fun g W hS=>by
  unfold XS
  refine wpAnyH_all hr1 (by simp) fun j hj=>?_
  have hji:j=i:=by simpa using hj
  subst hji
  refine wpOp_step hi fun K' hK=>?_
  have hd:=hap
  obtain ⟨h1,h2,h3⟩:=Oper.apart_spec hd
  rw [e1.2.1] at h1
  rw [wanted_put _ a _ _ h1,if_pos hw]
  have hx:=h (some g) W hS (fun a' W'=>K' (a'.put oA.dst (.pointer (some ⟨g,0,none⟩))) W') (fun a' W' hb hX=>hK _ _ ?_)
  ·have:=Oper.wp_put' (x:=oA) (o:=⟨d,op,ty,pos,after,guard⟩) (v:=.pointer (some ⟨g,0,none⟩)) hap (fun cs b=>hsel j _ cs b hi) hA.q hx
   rwa [e1.2.1] at this
  ·have hn:=hS.next ok hb
   refine ⟨hn.1,?_⟩
   have hX':=hX hn
   unfold XS at hX'
   rw [e1.2.1,Array.setIfInBounds_comm _ _ hne]
   exact hX'
 cases o with
 | some g=>exact some_ g W hS
 | none =>
  unfold XS
  refine wpAnyH_all rfl (by intro e;rw [e] at hr0;cases hr0) fun j hj=>?_
  have hj2:=List.all_eq_true.1 hr j hj
  simp only [Bool.or_eq_true,beq_iff_eq] at hj2
  rcases hj2 with rfl | rfl
  ·refine wpOp_step hi fun K' hK=>?_
   rw [if_pos hw]
   exact h none W hS K' (fun a' W' hb hX=>hK _ _ ⟨(hS.next ok hb).1,by have:=hX (hS.next ok hb);unfold XS at this;exact this⟩)
  ·refine wpOp_step hoA fun K' hK=>?_
   rw [if_pos (hwA a)]
   unfold Oper.wp
   rw [zbz e1.1 hA.run]
   refine hK _ _ ⟨(hS.al ok).1,?_⟩
   have:=some_ W.heap.size _ (hS.al ok)
   unfold XS at this
   rw [e1.2.1]
   exact this
theorem store_atS (s:Nat) {ty:TypeId} {pos:String} {after:Array Edge} {y:Operand} {f:Nat} {listed:Array Bool} {l:List Value} {l':Nat→List Value} {df:List Deferred} {o:Option Nat} {W:World} {cs:Array Value}
  (hA:AllocAt P ops Q A p T Z) (ok:SOk w0 T Z S)
  (hi:ops[s]?=some ⟨none,.store T (.tmp p) y,ty,pos,after,none⟩)
  (hr:((Region.ready md ops listed).all fun j=>j == A)=true) (hr0:(Region.ready md ops listed).isEmpty=false) (hr1:Region.ready md ops (listed.setIfInBounds A true)=[s])
  (hS:HS w0 T Z S o W) (hp:decide (p<l.length)=true) (hy:Act.eval ⟨l.toArray,df⟩ y=.agg cs) (hyp:y≠.tmp p) (hinf:(P.info? T).map (·.size)=some cs.size) (hsz:Z.size=cs.size) (h1:cs.all (·.oneCell')=true)
  (hl:∀ g,l.set p (.pointer (some ⟨g,0,none⟩))=l' g)
  (h:∀ g W',w0.heap.size≤g→S W'→W'.heap[g]?=some (.cells cs T (0,0))→wpAnyH P md ops Q S f ((listed.setIfInBounds A true).setIfInBounds s true) ⟨(l' g).toArray,df⟩ W') :
  XS P md ops Q S A p o (f+1) listed ⟨l.toArray,df⟩ W:=by
 have hp:=of_decide_eq_true hp
 obtain ⟨oA,hoA⟩:∃ oA,ops[A]?=some oA:=by
  cases hq:ops[A]? with
  | none=>have:=hA.at_;rw [hq] at this;cases this
  | some oA=>exact ⟨oA,rfl⟩
 have e1:=hA.at_
 rw [hoA] at e1
 simp only [Option.map_some,Option.some.injEq,Prod.mk.injEq] at e1
 have some_:∀ g W,HS w0 T Z S (some g) W→XS P md ops Q S A p (some g) (f+1) listed ⟨l.toArray,df⟩ W:=fun g W hS=>by
  unfold XS
  refine wpAnyH_all hr1 (by simp) fun j hj=>?_
  have hji:j=s:=by simpa using hj
  subst hji
  refine wpOp_step hi fun K' hK=>?_
  have hg:=hS.2 g rfl
  rw [if_pos (by rfl)]
  refine wp_store_row T (.tmp p) y rfl g cs ?_ ?_ T Z hg.2 hinf hsz h1 (hK _ _ ?_)
  ·simp [Act.eval,Act.put,hp]
  ·rw [Act.eval_put (fun d hd=>by injection hd with hd;subst hd;exact hyp)]
   exact hy
  ·refine ⟨ok.row _ _ _ hS.1 hg.2 hg.1,?_⟩
   have:=h g _ hg.1 (ok.row _ _ _ hS.1 hg.2 hg.1) (setRow_heap _ _ _ _ _ _ hg.2)
   rw [← hl g] at this
   simpa [Act.put] using this
 cases o with
 | some g=>exact some_ g W hS
 | none =>
  unfold XS
  refine wpAnyH_all rfl (by intro e;rw [e] at hr0;cases hr0) fun j hj=>?_
  have hj2:=List.all_eq_true.1 hr j hj
  simp only [beq_iff_eq] at hj2
  subst hj2
  refine wpOp_step hoA fun K' hK=>?_
  rw [if_pos (by unfold Region.wanted;rw [e1.2.2])]
  unfold Oper.wp
  rw [zbz e1.1 hA.run]
  refine hK _ _ ⟨(hS.al ok).1,?_⟩
  have:=some_ W.heap.size _ (hS.al ok)
  unfold XS at this
  rw [e1.2.1]
  exact this
theorem Ob.setRow {E T:TypeId} {W:World} {base g:Nat} {v:Value} {l:List UInt8} {Z cs:Array Value} (h:Ob E W base v l) (hg:W.heap[g]?=some (.cells Z T (0,0))) (hne:T≠E):Ob E (W.setRow g cs) base v l:=by
 refine ⟨h.1,?_⟩
 rcases h.2 with hn | ⟨gv,cap,cur,rfl,hb',hgv,rest⟩
 ·exact .inl hn
 ·refine .inr ⟨gv,cap,cur,rfl,hb',?_,rest⟩
  have hne2:gv≠g:=by
   rintro rfl
   rw [hg] at hgv
   injection hgv with hgv
   injection hgv with _ ht
   exact hne ht
  rw [setRow_other _ _ _ _ hne2]
  exact hgv
theorem SOk.ob {E:TypeId} {base:Nat} {v:Value} {l:List UInt8} (ok:SOk w0 T Z S) (hne:T≠E):SOk w0 T Z (fun W=>S W∧Ob E W base v l) :=
 ⟨fun W h=>ok.low W h.1,fun W W' h hb=>⟨ok.next W W' h.1 hb,h.2.below hb⟩,fun W g cs h hg hl=>⟨ok.row W g cs h.1 hg hl,h.2.setRow hg hne⟩⟩
end
end Go.Proofs.YtkgodlcnoenmbaaGreat
