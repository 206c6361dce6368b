/-
  A part of what the proof of EdKnown rests on: plain lemmas and contracts of the functions that it calls. No conditions but what each theorem states.
-/
import Derived.Test.YtkgodlcnoenmbaaGreatEdKnownK2
import Derived.Deep.QuietTactic
import Derived.BigQuiet
import Derived.StillTailTactics
import Derived.Laws.BitsAllLaws
namespace Go.Proofs.YtkgodlcnoenmbaaGreat
open Go.RowKit
set_option linter.unusedVariables false
set_option maxRecDepth 100000
set_option maxHeartbeats 6400000
def vQ:List Nat→Nat
 | []=>0
 | x :: l=>x+Q64*vQ l
def wsL:Nat→Nat→List Nat
 | 0,_=>[]
 | k+1,n=>n % Q64 :: wsL k (n/Q64)
def wsA (l:List Nat):Array Value:=(l.map fun x:Nat=>Value.int .u64 ((x:Nat):Int)).toArray
def wdW (k n:Nat):Array Value:=wsA (wsL k n)
structure Ws (k:Nat) (l:List Nat):Prop where
 len:l.length=k
 lt:∀ i,i<k→l.getD i 0<Q64
theorem wsL_len:∀ k n,(wsL k n).length=k
 | 0,_=>rfl
 | k+1,n=>by rw [wsL,List.length_cons,wsL_len]
theorem wsL_get:∀ (k n i:Nat),i<k→(wsL k n).getD i 0=wq n i
 | 0,_,_,h=>by omega
 | k+1,n,0,_=>by simp [wsL,wq]
 | k+1,n,i+1,h=>by
  rw [wsL,List.getD_cons_succ,wsL_get k (n/Q64) i (by omega)]
  unfold wq
  rw [Nat.div_div_eq_div_mul,← Nat.pow_succ']
theorem wsL_ws (k n:Nat):Ws k (wsL k n):=⟨wsL_len k n,fun i hi=>by rw [wsL_get k n i hi];exact wq_lt n i⟩
theorem vQ_wsL:∀ k n,vQ (wsL k n)=n % Q64^k
 | 0,n=>by simp [wsL,vQ,Nat.mod_one]
 | k+1,n=>by rw [wsL,vQ,vQ_wsL k (n/Q64),Nat.pow_succ',Nat.mod_mul]
theorem vQ_eq {k n:Nat} (h:n<Q64^k):vQ (wsL k n)=n:=by rw [vQ_wsL,Nat.mod_eq_of_lt h]
theorem wsL_vQ:∀ {k:Nat} {l:List Nat},Ws k l→wsL k (vQ l)=l
 | 0,l,h=>by rw [List.eq_nil_of_length_eq_zero h.len];rfl
 | k+1,[],h=>by have:=h.len;simp at this
 | k+1,x :: l,h=>by
  have hx:x<Q64:=h.lt 0 (by omega)
  have hl:Ws k l:=⟨by have:=h.len;simpa using this,fun i hi=>by have:=h.lt (i+1) (by omega);rwa [List.getD_cons_succ] at this⟩
  rw [vQ,wsL,Nat.add_mul_mod_self_left,Nat.mod_eq_of_lt hx,Nat.add_mul_div_left _ _ (by decide),Nat.div_eq_of_lt hx,Nat.zero_add,wsL_vQ hl]
theorem vQ_lt:∀ {k:Nat} {l:List Nat},Ws k l→vQ l<Q64^k
 | 0,l,h=>by rw [List.eq_nil_of_length_eq_zero h.len];simp [vQ]
 | k+1,[],h=>by have:=h.len;simp at this
 | k+1,x :: l,h=>by
  have hx:x<Q64:=h.lt 0 (by omega)
  have hl:Ws k l:=⟨by have:=h.len;simpa using this,fun i hi=>by have:=h.lt (i+1) (by omega);rwa [List.getD_cons_succ] at this⟩
  have:=vQ_lt hl
  rw [vQ,Nat.pow_succ']
  have:Q64*(vQ l+1)≤Q64*Q64^k:=Nat.mul_le_mul_left _ this
  rw [Nat.mul_add] at this
  omega
theorem vQ_set:∀ (l:List Nat) (i v:Nat),i<l.length→vQ (l.set i v)+l.getD i 0*Q64^i=vQ l+v*Q64^i
 | [],_,_,h=>by simp at h
 | x :: l,0,v,_=>by simp [vQ];omega
 | x :: l,i+1,v,h=>by
  have ih:=vQ_set l i v (by simpa using h)
  rw [List.set_cons_succ,vQ,vQ,List.getD_cons_succ,Nat.pow_succ']
  have:=congrArg (Q64 * ·) ih
  simp only [Nat.mul_add] at this
  rw [Nat.mul_left_comm (l.getD i 0),Nat.mul_left_comm v]
  omega
theorem Ws.set {k:Nat} {l:List Nat} (h:Ws k l) (i v:Nat) (hv:v<Q64):Ws k (l.set i v) :=
 ⟨by rw [List.length_set];exact h.len,fun j hj=>by
  have:=h.lt j hj
  rw [List.getD_eq_getElem?_getD,List.getElem?_set]
  by_cases e:i=j
  ·subst e;simp [h.len,hj,hv]
  ·simp only [if_neg e];rwa [← List.getD_eq_getElem?_getD]⟩
theorem ws_row {k n:Nat} {l:List Nat} (h:Ws k l) (hv:vQ l=n):wsA l=wdW k n:=by rw [wdW,← hv,wsL_vQ h]
theorem wsA_size (l:List Nat):(wsA l).size=l.length:=by simp [wsA]
theorem wsA_get (l:List Nat) (i:Nat) (h:i<l.length):(wsA l)[i]?=some (.int .u64 ((l.getD i 0:Nat):Int)):=by
 simp [wsA,List.getD,List.getElem?_eq_getElem h]
theorem wsA_set (l:List Nat) (i x:Nat):(wsA l).setIfInBounds i (.int .u64 (x:Int))=wsA (l.set i x):=by
 unfold wsA
 rw [List.map_set]
 simp
theorem wsA_one (l:List Nat):(wsA l).all (·.oneCell')=true:=by simp [wsA,Value.oneCell']
theorem zay (k n:Nat):(wdW k n).size=k:=by rw [wdW,wsA_size,wsL_len]
theorem wdW_get (k n d:Nat) (h:d<k):(wdW k n)[d]?=some (.int .u64 (wq n d:Int)):=by
 rw [wdW,wsA_get _ _ (by rw [wsL_len];exact h),wsL_get _ _ _ h]
theorem wdW_one (k n:Nat):(wdW k n).all (·.oneCell')=true:=wsA_one _
theorem ws_ext {k:Nat} {l m:List Nat} (h:l.length=k) (h2:m.length=k) (he:∀ i,i<k→l.getD i 0=m.getD i 0):l=m:=by
 apply List.ext_getElem (by omega)
 intro i h3 h4
 have:=he i (by omega)
 simpa [List.getD,List.getElem?_eq_getElem h3,List.getElem?_eq_getElem h4] using this
theorem wdW_set (k n m d:Nat) (hd:d<k) (h:∀ j,j<k→j≠d→wq m j=wq n j):(wdW k n).setIfInBounds d (.int .u64 (wq m d:Int))=wdW k m:=by
 rw [wdW,wsA_set,wdW]
 congr 1
 refine ws_ext (k:=k) (by rw [List.length_set,wsL_len]) (wsL_len _ _) fun i hi=>?_
 rw [List.getD_eq_getElem?_getD,List.getElem?_set,wsL_get _ _ _ hi]
 by_cases e:d=i
 ·subst e;simp [wsL_len,hi]
 ·simp only [if_neg e]
  rw [← List.getD_eq_getElem?_getD,wsL_get _ _ _ hi]
  exact (h i hi (fun e2=>e e2.symm)).symm
theorem wdW_four (n:Nat):wdW 4 n=#[.int .u64 (wq n 0:Int),.int .u64 (wq n 1:Int),.int .u64 (wq n 2:Int),.int .u64 (wq n 3:Int)]:=by
 rw [wdW,ws_ext (wsL_len 4 n) (m:=[wq n 0,wq n 1,wq n 2,wq n 3]) rfl fun i hi=>by
  rw [wsL_get _ _ _ hi]
  have:i=0∨i=1∨i=2∨i=3:=by omega
  rcases this with rfl | rfl | rfl | rfl <;> rfl]
 rfl
theorem four_row (a b c d n:Nat) (ha:a<Q64) (hb:b<Q64) (hc:c<Q64) (hd:d<Q64) (h:a+Q64*(b+Q64*(c+Q64*d))=n) :
  #[Value.int .u64 (a:Int),.int .u64 (b:Int),.int .u64 (c:Int),.int .u64 (d:Int)]=wdW 4 n:=by
 have hw:Ws 4 [a,b,c,d]:=⟨rfl,fun i hi=>by
  have:i=0∨i=1∨i=2∨i=3:=by omega
  rcases this with rfl | rfl | rfl | rfl <;> assumption⟩
 exact ws_row hw (by simpa [vQ] using h)
theorem wd_step (n b k:Nat) (hn:n<256^k) (hb:b<256):wq n (k/8)<2^(k % 8*8)∧2^(k % 8*8)*b<Q64∧wq (n+b*256^k) (k/8)=wq n (k/8)+2^(k % 8*8)*b ∧
  ∀ j,j≠k/8→wq (n+b*256^k) j=wq n j:=by
 have hk:k=8*(k/8)+k % 8:=by omega
 obtain ⟨d,hd⟩:∃ d,k/8=d:=⟨_,rfl⟩
 obtain ⟨r,hr⟩:∃ r,k % 8=r:=⟨_,rfl⟩
 have hr8:r<8:=by omega
 rw [hd,hr] at hk ⊢
 have hP:256^k=Q64^d*2^(r*8):=by
  rw [hk,Nat.pow_add,Nat.pow_mul,show (256:Nat)^8=Q64 from rfl,show (256:Nat)=2^8 from rfl,← Nat.pow_mul,Nat.mul_comm 8 r]
 have hS:2^(r*8)*256≤Q64:=by
  have:2^(r*8)*256=2^(r*8+8):=by rw [Nat.pow_add]
  rw [this]
  exact Nat.pow_le_pow_right (n:=2) (by decide) (show r*8+8≤64 by omega)
 have hS0:0<2^(r*8):=Nat.pow_pos (by decide)
 have hQ0:0<Q64^d:=Nat.pow_pos (by decide)
 rw [hP] at hn ⊢
 generalize 2^(r*8)=S at *
 have hnd:n/Q64^d<S:=Nat.div_lt_of_lt_mul hn
 have hSb:S*b≤S*255:=Nat.mul_le_mul_left _ (by omega)
 have hnQ:n/Q64^d+S*b<Q64:=by
  have:S*255+S=S*256:=by omega
  omega
 have e1:b*(Q64^d*S)=S*b*Q64^d:=by rw [Nat.mul_left_comm,Nat.mul_comm b S,Nat.mul_comm]
 refine ⟨?_,by omega,?_,fun j hj=>?_⟩
 ·unfold wq;rw [Nat.mod_eq_of_lt (by omega)];exact hnd
 ·unfold wq
  rw [e1,Nat.add_mul_div_right _ _ hQ0,Nat.mod_eq_of_lt hnQ,Nat.mod_eq_of_lt (by omega)]
 ·unfold wq
  rcases Nat.lt_or_ge j d with h | h
  ·obtain ⟨t,rfl⟩:∃ t,d=j+(t+1):=⟨d-j-1,by omega⟩
   have hj0:0<Q64^j:=Nat.pow_pos (by decide)
   rw [e1,Nat.pow_add,Nat.pow_succ',show S*b*(Q64^j*(Q64*Q64^t))=S*b*Q64^t*Q64*Q64^j by
    rw [Nat.mul_comm (Q64^j),Nat.mul_comm Q64 (Q64^t),Nat.mul_assoc (S*b),Nat.mul_assoc (S*b),Nat.mul_assoc (Q64^t)],
    Nat.add_mul_div_right _ _ hj0,Nat.add_mul_mod_self_right]
  ·obtain ⟨t,rfl⟩:∃ t,j=d+(t+1):=⟨j-d-1,by omega⟩
   have hbig:Q64^d*Q64≤Q64^(d+(t+1)):=by
    rw [← Nat.pow_succ]
    exact Nat.pow_le_pow_right (by decide) (by omega)
   have h1:n+S*b*Q64^d<Q64^d*Q64:=by
    have hn2:n<Q64^d*(n/Q64^d+1):=Nat.lt_mul_div_succ n hQ0
    have:Q64^d*(n/Q64^d+1+S*b)≤Q64^d*Q64:=Nat.mul_le_mul_left _ (by omega)
    rw [Nat.mul_add,Nat.mul_comm (Q64^d) (S*b)] at this
    omega
   rw [e1,Nat.div_eq_of_lt (by omega),Nat.div_eq_of_lt (Nat.lt_of_le_of_lt (Nat.le_add_right _ _) (Nat.lt_of_lt_of_le h1 hbig))]
theorem mod_q (n k:Nat):n % Q64^(k+1)=n % Q64^k+wq n k*Q64^k:=by
 rw [Nat.mod_pow_succ,wq,Nat.mul_comm]
theorem add_wd {P V V' a z d m c n s:Nat} (h:z+d*Q64=a+m+c) (hs:V'+a*P=V+z*P) (hi:V+c*P=n+s):V'+d*(P*Q64)=n+(s+m*P):=by
 have e:=congrArg (· * P) h
 simp only [Nat.add_mul] at e
 rw [Nat.mul_comm P,← Nat.mul_assoc]
 omega
theorem sub_wd {P V V' a z d m b n s:Nat} (h:z+m+b=a+d*Q64) (hs:V'+a*P=V+z*P) (hi:V+s=n+b*P):V'+(s+m*P)=n+d*(P*Q64):=by
 have e:=congrArg (· * P) h
 simp only [Nat.add_mul] at e
 rw [Nat.mul_comm P,← Nat.mul_assoc]
 omega
theorem mul_wd {P R V V' a z d m x c n s:Nat} (h:z+d*Q64=x*m+a+c) (hs:V'+a*(P*R)=V+z*(P*R)) (hi:V+c*(P*R)=n+x*s*P):V'+d*(P*R*Q64)=n+x*(s+m*R)*P:=by
 have e:=congrArg (· * (P*R)) h
 simp only [Nat.add_mul] at e
 have e2:x*(s+m*R)*P=x*s*P+x*m*(P*R):=by
  rw [Nat.mul_add,Nat.add_mul,← Nat.mul_assoc x m R,Nat.mul_assoc (x*m) R P,Nat.mul_comm R P]
 rw [e2,Nat.mul_comm (P*R),← Nat.mul_assoc]
 omega
theorem sum_end {V c n m P:Nat} (h:V+c*P=n+m) (hv:V<P):V=(n+m) % P:=by
 rw [← h,Nat.add_mul_mod_self_right,Nat.mod_eq_of_lt hv]
theorem dif_end {V b n m P:Nat} (h:V+m=n+b*P) (hv:V<P) (hn:n<P) (hm:m<P) (hb:b≤1):V=(n+(P-m)) % P∧(b=1↔n<m):=by
 have:b=0∨b=1:=by omega
 rcases this with rfl | rfl
 ·refine ⟨?_,by omega⟩
  have e:n+(P-m)=V+P:=by omega
  rw [e,Nat.add_mod_right,Nat.mod_eq_of_lt hv]
 ·refine ⟨?_,by omega⟩
  rw [show n+(P-m)=V by omega,Nat.mod_eq_of_lt hv]
abbrev R11:Nat:=27742317777372353535851937790883648493
theorem next_is {n w:Nat} (hn:n<LL) (hw:w<4294967296) :
  (n/2^220*R11<LL)∧(n % 2^220*2^32+w<LL) ∧
  (n % 2^220*2^32+w<n/2^220*R11→n % 2^220*2^32+w+LL-n/2^220*R11=(n*2^32+w) % LL) ∧
  (¬ n % 2^220*2^32+w<n/2^220*R11→n % 2^220*2^32+w-n/2^220*R11=(n*2^32+w) % LL):=by
 unfold LL R11 at *
 simp only [Nat.reducePow]
 have hd:=Nat.div_add_mod n 1684996666696914987166688442938726917102321526408785780068975640576
 have hm:=Nat.mod_lt n (show 1684996666696914987166688442938726917102321526408785780068975640576 > 0 by decide)
 generalize n/1684996666696914987166688442938726917102321526408785780068975640576=q at *
 generalize n % 1684996666696914987166688442938726917102321526408785780068975640576=t at *
 refine ⟨by omega,by omega,fun h=>?_,fun h=>?_⟩
 ·have e:n*4294967296+w=(t*4294967296+w+7237005577332262213973186563042994240857116359379907606001950938285454250989-q*27742317777372353535851937790883648493)+7237005577332262213973186563042994240857116359379907606001950938285454250989*(q-1):=by omega
  rw [e,Nat.add_mul_mod_self_left,Nat.mod_eq_of_lt (by omega)]
 ·have e:n*4294967296+w=(t*4294967296+w-q*27742317777372353535851937790883648493)+7237005577332262213973186563042994240857116359379907606001950938285454250989*q:=by omega
  rw [e,Nat.add_mul_mod_self_left,Nat.mod_eq_of_lt (by omega)]
theorem next_words (n w:Nat) (hn:n<LL) (hw:w<4294967296) :
  w+2^32*(wq n 0 % 4294967296)+Q64*(wq n 0/4294967296+2^32*(wq n 1 % 4294967296)+Q64*(wq n 1/4294967296+2^32*(wq n 2 % 4294967296)+Q64*(wq n 2/4294967296+2^32*(wq n 3 % 268435456))))=n % 2^220*2^32+w ∧
  wq n 3/268435456=n/2^220:=by
 unfold wq Q64 LL at *
 simp only [Nat.reducePow]
 constructor <;> omega
theorem next_ex {n w:Nat} (hn:n<LL) (hw:w<4294967296):∃ S q O:Nat,
  q*R11<LL∧S<LL∧(S<q*R11→S+LL-q*R11=O)∧(¬ S<q*R11→S-q*R11=O)∧O<LL∧(n*2^32+w) % LL=O ∧
  w+2^32*(wq n 0 % 4294967296)+Q64*(wq n 0/4294967296+2^32*(wq n 1 % 4294967296)+Q64*(wq n 1/4294967296+2^32*(wq n 2 % 4294967296)+Q64*(wq n 2/4294967296+2^32*(wq n 3 % 268435456))))=S ∧
  wq n 3/268435456=q:=by
 obtain ⟨a,b,c,d⟩:=next_is hn hw
 obtain ⟨e,f⟩:=next_words n w hn hw
 exact ⟨_,_,_,a,b,c,d,Nat.mod_lt _ (by decide),rfl,e,f⟩
abbrev Q4:Nat:=115792089237316195423570985008687907853269984665640564039457584007913129639936
theorem q4_is:Q64^4=Q4:=by decide
theorem min_less {S Y O:Nat} (hS:S<LL) (hY:Y<LL) (h:S<Y) (e:S+LL-Y=O) (hO:O<LL):((S+(Q4-Y)) % Q4+LL) % Q4=O:=by
 unfold Q4 LL at *
 omega
theorem min_else {S Y O:Nat} (hS:S<LL) (hY:Y<LL) (h:¬ S<Y) (e:S-Y=O):(S+(Q4-Y)) % Q4=O:=by
 unfold Q4 LL at *
 omega
theorem round_is (n i:Nat):((n/Q64^(i+1) % LL*2^32+wq n i/4294967296) % LL*2^32+wq n i % 4294967296) % LL=n/Q64^i % LL:=by
 have e:n/Q64^i=n/Q64^(i+1)*Q64+wq n i:=by
  unfold wq
  rw [Nat.pow_succ,← Nat.div_div_eq_div_mul,Nat.mul_comm]
  exact (Nat.div_add_mod _ _).symm
 have hw:=wq_lt n i
 rw [e]
 generalize n/Q64^(i+1)=h at *
 generalize wq n i=w at *
 unfold Q64 LL at *
 simp only [Nat.reducePow]
 omega
theorem mul_lim {a b c P R:Nat} (ha:a<P) (hb:b<R) (hc:c<R):a*b+c<P*R:=by
 have h1:a*b≤(P-1)*(R-1):=Nat.mul_le_mul (by omega) (by omega)
 have h2:(P-1)*(R-1)+(R-1)=P*(R-1):=by rw [← Nat.succ_mul];congr 1;omega
 have h3:P*(R-1)+P=P*R:=by rw [← Nat.mul_succ];congr 1;omega
 omega
structure Lp (w wr:World) (g:Nat) (cs:Array Value) (t:TypeId) (L:List RowT):Prop where
 rows:RowsW wr ((g,cs,t) :: L)
 new:w.heap.size≤g
 far:∀ r ∈ L,r.1≠g
 below:Below w.heap.size w wr
theorem Lp.drew {w wr g cs t L} (h:Lp w wr g cs t L):Lp w wr.drew g cs t L:=⟨h.rows.drew,h.new,h.far,h.below.drew⟩
theorem Lp.set {w wr g cs t L} (h:Lp w wr g cs t L) (k:Nat) (v:Value):Lp w (wr.setCell ⟨g,k,none⟩ v) g (cs.setIfInBounds k v) t L :=
 ⟨h.rows.set h.far k v,h.new,h.far,h.below.setCell (p:=⟨g,k,none⟩) h.new v⟩
theorem Lp.fz {w wr g cs t L} (h:Lp w wr g cs t L) (k:Nat):wr.frozen? ⟨g,k,none⟩=false:=by have:=h.rows.head;simp [World.frozen?,this]
theorem Lp.call {w wr W g cs t L} (h:Lp w wr g cs t L) (hb:Below wr.heap.size wr W):Lp w W g cs t L:=⟨h.rows.below hb,h.new,h.far,below_then h.below hb⟩
theorem zaW (n:Nat):(Tryz.prog.info? 76).map (·.size)=some (wdW 4 n).size:=by rw [zay];kernel_rfl
theorem wd8_info (n:Nat):(Tryz.prog.info? 88).map (·.size)=some (wdW 8 n).size:=by rw [zay];kernel_rfl
theorem wd4_zero (u:World):(zeroValue 76).run Tryz.prog u=.ok (.agg (wdW 4 0)) u:=zero_arr 76 (wdW 4 0) 4 (by kernel_rfl) u
theorem wd8_zero (u:World):(zeroValue 88).run Tryz.prog u=.ok (.agg (wdW 8 0)) u:=zero_arr 88 (wdW 8 0) 8 (by kernel_rfl) u
theorem b32_zero (u:World):(zeroValue 22).run Tryz.prog u=.ok (.agg zag) u:=arr32_zero u
theorem scwords_any (l:List UInt8) (hl:l.length=32) (w:World):Calls Tryz.prog 54 #[.agg (arrB l)] w (RetV w (.agg (wdW 4 (leN l)))):=by
 have hz4:=wd4_zero
 have HX:Hid (∀ k:Nat,k<32→∀ u,(Instr.index 22 (.agg (arrB l)) (.int .i64 (k:Int))).run Tryz.prog u=.ok (.int .u8 ((l.getD k 0).toNat:Int)) u):=yh fun k hk u=>arr_at hl k hk u
 have iB:=zaf hl
 have HL:=yh hl
 have HZ:Hid (wdW 4 0=wdW 4 (leN (l.take 0))):=yh (by rw [List.take_zero];rfl)
 have iO:=zaW (leN l)
 have nO:(wdW 4 0).size=(wdW 4 (leN l)).size:=by rw [zay,zay]
 have oO:=wdW_one 4 (leN l)
 obtain ⟨BB,hBB⟩:∃ X,arrB l=X:=⟨_,rfl⟩
 rw [hBB] at HX iB ⊢
 obtain ⟨z4,hz⟩:∃ z,wdW 4 0=z:=⟨_,rfl⟩
 rw [hz] at hz4 HZ nO
 have hr0:RowsW (((w.alloc (.cells BB 22)).alloc (.cells z4 76)).alloc (.cells z4 76)) [(w.heap.size+1+1,z4,76),(w.heap.size+1,z4,76),(w.heap.size,BB,22)]:=by
  have h:=(((RowsW.nil w).box BB 22).box z4 76).box z4 76
  simp only [World.size_alloc] at h
  exact h
 have hrb:=hr0.tail.tail.head
 have hb0:Below w.heap.size w (((w.alloc (.cells BB 22)).alloc (.cells z4 76)).alloc (.cells z4 76)):=zab (zab (zab (Below.refl _ _) _) _) _
 have HR0:=yh hr0
 have HB0:=yh hb0
 clear hr0 hb0 hBB hz hl
 go_enter Tryz.func54,Tryz.ntmps54
 go_wp2_with (refine yi hrb Tryz.underlying22 iB ?_)
 obtain ⟨W1,hW1⟩:∃ W,((w.alloc (.cells BB 22)).alloc (.cells z4 76)).alloc (.cells z4 76)=W:=⟨_,rfl⟩
 rw [hW1] at HR0 HB0
 rw [hW1]
 have HI:Hid (Lp w W1 (w.heap.size+1+1) (wdW 4 (leN (l.take 0))) 76 [(w.heap.size+1,z4,76)]):=yh ⟨by rw [← HZ.out];exact ⟨HR0.out.head,HR0.out.tail.head,trivial⟩,by omega,by simp,HB0.out⟩
 obtain ⟨g,hg⟩:∃ g,w.heap.size=g:=⟨_,rfl⟩
 rw [hg] at HI
 rw [hg]
 have HG:=yh hg
 clear hW1 hg hrb HR0 HB0 HZ
 go_loopw [7] (fun i wr=>∃ k:Nat,k≤32∧i=.int .i64 (k:Int)∧Hid (Lp w wr (g+1+1) (wdW 4 (leN (l.take k))) 76 [(g+1,z4,76)])) (fun i _=>32-(intOf i).toNat)
 case atStart=>exact ⟨0,by omega,rfl,HI⟩
 case round =>
  clear HI
  obtain ⟨k,hk,rfl,HI⟩:=hrel
  by_cases hlt:k<32
  ·have hx:=HX.out k hlt
   obtain ⟨b,hb⟩:∃ b,(l.getD k 0).toNat=b:=⟨_,rfl⟩
   have hbl:b<256:=by rw [← hb];exact (l.getD k 0).toNat_lt
   obtain ⟨n,hn⟩:∃ n,leN (l.take k)=n:=⟨_,rfl⟩
   have hnl:n<256^k:=by rw [← hn];exact leN_take_lt l k (by rw [HL.out];omega)
   have hn1:leN (l.take (k+1))=n+b*256^k:=by rw [leN_take l k (by rw [HL.out];omega),hn,hb]
   obtain ⟨s1,s2,s3,s4⟩:=wd_step n b k hnl hbl
   have hd4:k/8<4:=by omega
   rw [hn] at HI
   rw [hb] at hx
   obtain ⟨d,hd⟩:∃ d,k/8=d:=⟨_,rfl⟩
   obtain ⟨r,hr⟩:∃ r,k % 8=r:=⟨_,rfl⟩
   obtain ⟨e,he⟩:∃ e,r*8=e:=⟨_,rfl⟩
   rw [hd,hr,he] at s1 s3
   rw [hr,he] at s2
   rw [hd] at s4
   rw [hd] at hd4
   have hel:e<57:=by omega
   have hs4:=wdW_set 4 n (n+b*256^k) d hd4 (fun j _ hne=>s4 j hne)
   rw [s3] at hs4
   have cz:wr.cell? ⟨g+1+1,d,none⟩=some (.int .u64 (wq n d:Int)):=by rw [cell_of_row _ _ _ _ _ _ HI.out.rows.head,wdW_get _ _ _ hd4]
   have fx:=HI.out.fz d
   have hw:=wq_lt n d
   have f7:=or_low (wq n d) b e s1 hw s2
   have HI2:Hid (Lp w (wr.drew.setCell ⟨g+1+1,d,none⟩ (.int .u64 ((wq n d+2^e*b:Nat):Int))) (g+1+1) (wdW 4 (leN (l.take (k+1)))) 76 [(g+1,z4,76)]):=yh (by
    rw [hn1,← hs4]
    exact (HI.out.drew).set d _)
   have f6:IntKind.u64.wrap ((b:Int)*2^e)=((2^e*b:Nat):Int):=by
    rw [IntKind.wrap_u64,show (b:Int)*2^e=((2^e*b:Nat):Int) by rw [Int.natCast_mul,Int.mul_comm];simp]
    unfold Q64 at s2
    omega
   generalize 2^e*b=m at *
   obtain ⟨o,ho⟩:∃ o,wq n d+m=o:=⟨_,rfl⟩
   rw [ho] at f7 HI2
   generalize wq n d=q at *
   have f1:(k:Int).tdiv 8=(d:Int):=by rw [Int.tdiv_eq_ediv_of_nonneg (by omega)];omega
   have f1':(k:Int)/8=(d:Int):=by omega
   have f2:IntKind.i64.wrap (d:Int)=(d:Int):=by rw [IntKind.wrap_i64];omega
   have f3:(k:Int).tmod 8=(r:Int):=by rw [Int.tmod_eq_emod_of_nonneg (by omega)];omega
   have f3':(k:Int) % 8=(r:Int):=by omega
   have f4:(r:Int)*8=(e:Int):=by omega
   have f5:IntKind.i64.wrap (e:Int)=(e:Int):=by rw [IntKind.wrap_i64];omega
   have f8:IntKind.u64.wrap (b:Int)=(b:Int):=by rw [IntKind.wrap_u64];omega
   have b1:0≤(d:Int):=by omega
   have b2:(d:Int)<4:=by omega
   have b3:0≤(e:Int):=by omega
   have b5:0≤(k:Int):=by omega
   have b6:(k:Int)<32:=by omega
   clear HI hb hbl hn hnl hn1 s1 s2 s3 s4 hd hr he hs4 hw ho
   go_wp2_with fail
   refine wp_region_still_tail 11 (by kernel_rfl) (by kernel_rfl) ?_
   simp only [List.take_succ_cons,List.take_zero,List.drop_succ_cons,List.drop_zero]
   iterate 11 still_step
   refine wpStill_nil ?_
   go_wp2_with fail
   go_roundw
   case rel=>exact ⟨k+1,by omega,by go_num,HI2⟩
   case measure=>simp [intOf];omega
  ·obtain rfl:k=32:=by omega
   have hV:l.take 32=l:=List.take_of_length_le (by rw [HL.out];omega)
   rw [hV] at HI
   generalize wdW 4 (leN l)=OUT at *
   have h1:=HI.out.rows.head
   have h0:=HI.out.rows.tail.head
   have HB:Hid (Below w.heap.size w (wr.setRow (g+1) OUT)):=yh (zac HI.out.below (by rw [HG.out];omega))
   clear HI
   go_wp2_with (first
    | (refine yi h1 Tryz.underlying76 iO ?_)
    | (refine yj OUT h0 iO nO oO ?_))
   (try simp only [Exit.inBlock,Exit.then])
   refine bodyPost_ret (results_cell_row rfl _ _ (g+1) _ OUT _ _ rfl (setRow_heap _ _ _ _ _ _ h0) Tryz.underlying76 rfl iO) rfl ?_
   exact ⟨rfl,HB.out⟩
def byteX (V i:Nat):UInt8:=UInt8.ofNat (V/256^i)
theorem bytesX_end (V:Nat):updTo (List.replicate 32 0) (byteX V) 32=leB 32 V:=by
 refine list_ext_getD (by rw [updTo_len,zav];simp) fun i hi=>?_
 rw [updTo_len] at hi
 have hi':i<32:=by simpa using hi
 rw [updTo_get hi,if_pos hi',leB_get _ _ _ hi']
 rfl
theorem scbytes_any (x:Nat) (w:World):Calls Tryz.prog 45 #[.agg (wdW 4 x)] w (RetV w (.agg (bytT x))):=by
 have HQ:Hid (∀ i,i<32→wq x (i/8)/2^(i % 8*8) % 256=x/256^i % 256):=yh (byte_of x)
 have hzb:=b32_zero
 have nB:=zar (l:=leB 32 x) (zav _ _)
 have oB:=zap (leB 32 x)
 have iB:=zaf (zav 32 x)
 have HZB:Hid (zag=arrB (updTo (List.replicate 32 0) (byteX x) 0)):=yh (by rw [updTo_zero];rfl)
 have Hend:Hid (arrB (updTo (List.replicate 32 0) (byteX x) 32)=arrB (leB 32 x)):=yh (by rw [bytesX_end])
 have HWD:Hid (∀ d,d<4→(wdW 4 x)[d]?=some (.int .u64 (wq x d:Int))):=yh fun d h=>wdW_get 4 x d h
 unfold bytT
 obtain ⟨OUT,hOUT⟩:∃ o,arrB (leB 32 x)=o:=⟨_,rfl⟩
 rw [hOUT] at nB oB iB Hend ⊢
 generalize zag=z32 at *
 generalize wdW 4 x=N at *
 have hr0:RowsW (((w.alloc (.cells N 76)).alloc (.cells z32 22)).alloc (.cells z32 22)) [(w.heap.size+1+1,z32,22),(w.heap.size+1,z32,22),(w.heap.size,N,76)]:=by
  have h:=(((RowsW.nil w).box N 76).box z32 22).box z32 22
  simp only [World.size_alloc] at h
  exact h
 have hb0:Below w.heap.size w (((w.alloc (.cells N 76)).alloc (.cells z32 22)).alloc (.cells z32 22)):=zab (zab (zab (Below.refl _ _) _) _) _
 have HR0:=yh hr0
 have HB0:=yh hb0
 clear hr0 hb0 hOUT
 go_enter Tryz.func45,Tryz.ntmps45
 go_wp2_with fail
 obtain ⟨W1,hW1⟩:∃ W,((w.alloc (.cells N 76)).alloc (.cells z32 22)).alloc (.cells z32 22)=W:=⟨_,rfl⟩
 rw [hW1] at HR0 HB0
 rw [hW1]
 have HI:Hid (Lp w W1 (w.heap.size+1+1) (arrB (updTo (List.replicate 32 0) (byteX x) 0)) 22 [(w.heap.size+1,z32,22),(w.heap.size,N,76)]):=yh ⟨by rw [← HZB.out];exact HR0.out,by omega,by simp;omega,HB0.out⟩
 obtain ⟨g,hg⟩:∃ g,w.heap.size=g:=⟨_,rfl⟩
 rw [hg] at HI
 rw [hg]
 have HG:=yh hg
 clear hW1 hg HR0 HB0 HZB
 go_loopw [5] (fun i wr=>∃ k:Nat,k≤32∧i=.int .i64 (k:Int)∧Hid (Lp w wr (g+1+1) (arrB (updTo (List.replicate 32 0) (byteX x) k)) 22 [(g+1,z32,22),(g,N,76)])) (fun i _=>32-(intOf i).toNat)
 case atStart=>exact ⟨0,by omega,rfl,HI⟩
 case round =>
  clear HI
  obtain ⟨k,hk,rfl,HI⟩:=hrel
  by_cases hlt:k<32
  ·have hq:=HQ.out k hlt
   have hd4:k/8<4:=by omega
   obtain ⟨d,hd⟩:∃ d,k/8=d:=⟨_,rfl⟩
   obtain ⟨r,hr⟩:∃ r,k % 8=r:=⟨_,rfl⟩
   obtain ⟨e,he⟩:∃ e,r*8=e:=⟨_,rfl⟩
   rw [hd,hr,he] at hq
   rw [hd] at hd4
   have hel:e<57:=by omega
   have cz:wr.cell? ⟨g,d,none⟩=some (.int .u64 (wq x d:Int)):=by rw [cell_of_row _ _ _ _ _ _ HI.out.rows.tail.tail.head,HWD.out _ hd4]
   have hlen:(updTo (List.replicate 32 0) (byteX x) k).length=32:=by rw [updTo_len];simp
   have ce:wr.cell? ⟨g+1+1,k,none⟩=some (.int .u8 (((updTo (List.replicate 32 0) (byteX x) k).getD k 0).toNat:Int)):=by rw [cell_of_row _ _ _ _ _ _ HI.out.rows.head,zaJ _ _ (by omega)]
   have fe:=HI.out.fz k
   obtain ⟨t,ht⟩:∃ t,wq x d/2^e=t:=⟨_,rfl⟩
   rw [ht] at hq
   obtain ⟨v,hv⟩:∃ v,t % 256=v:=⟨_,rfl⟩
   have hb:(byteX x k).toNat=v:=by unfold byteX;rw [← hv,hq];simp
   have HI2:Hid (Lp w (wr.setCell ⟨g+1+1,k,none⟩ (.int .u8 (v:Int))) (g+1+1) (arrB (updTo (List.replicate 32 0) (byteX x) (k+1))) 22 [(g+1,z32,22),(g,N,76)]):=yh (by
    rw [← updTo_step (by simpa using hlt),← arrB_set,hb]
    exact HI.out.set k _)
   have f6:((wq x d:Nat):Int)/2^e=(t:Int):=by rw [← ht,Int.natCast_ediv];simp
   have f7:IntKind.u8.wrap (t:Int)=(v:Int):=by rw [IntKind.wrap_u8];omega
   have f1:(k:Int).tdiv 8=(d:Int):=by rw [Int.tdiv_eq_ediv_of_nonneg (by omega)];omega
   have f1':(k:Int)/8=(d:Int):=by omega
   have f3:(k:Int).tmod 8=(r:Int):=by rw [Int.tmod_eq_emod_of_nonneg (by omega)];omega
   have f3':(k:Int) % 8=(r:Int):=by omega
   have f4:(r:Int)*8=(e:Int):=by omega
   have b1:0≤(d:Int):=by omega
   have b2:(d:Int)<4:=by omega
   have b3:0≤(e:Int):=by omega
   have b5:0≤(k:Int):=by omega
   have b6:(k:Int)<32:=by omega
   generalize ((updTo (List.replicate 32 0) (byteX x) k).getD k 0)=old at *
   generalize wq x d=q at *
   clear HI hq hd hr he hb hlen ht hv
   go_wp2_with fail
   go_roundw
   case rel=>exact ⟨k+1,by omega,by go_num,HI2⟩
   case measure=>simp [intOf];omega
  ·obtain rfl:k=32:=by omega
   rw [Hend.out] at HI
   have h1:=HI.out.rows.head
   have h0:=HI.out.rows.tail.head
   have HB:Hid (Below w.heap.size w (wr.setRow (g+1) OUT)):=yh (zac HI.out.below (by rw [HG.out];omega))
   clear HI
   go_wp2_with (first
    | (refine yi h1 Tryz.underlying22 iB ?_)
    | (refine yj OUT h0 iB nB oB ?_))
   (try simp only [Exit.inBlock,Exit.then])
   refine bodyPost_ret (results_cell_row rfl _ _ (g+1) _ OUT _ _ rfl (setRow_heap _ _ _ _ _ _ h0) Tryz.underlying22 rfl iB) rfl ?_
   exact ⟨rfl,HB.out⟩
theorem scplus_any (n m:Nat) (hn:n<Q4) (hm:m<Q4) (w:World):Calls Tryz.prog 150 #[.agg (wdW 4 n),.agg (wdW 4 m)] w (RetV w (.agg (wdW 4 ((n+m) % Q4)))):=by
 have hz4:=wd4_zero
 have HWM:Hid (∀ d,d<4→(wdW 4 m)[d]?=some (.int .u64 (wq m d:Int))):=yh fun d h=>wdW_get 4 m d h
 have HNL:Hid (wdW 4 n=wsA (wsL 4 n)):=yh rfl
 have HWS:=yh (wsL_ws 4 n)
 have HV0:Hid (vQ (wsL 4 n)=n):=yh (vQ_eq (by rw [q4_is];exact hn))
 have HN:=yh hn
 have HM:=yh hm
 have iO:=zaW ((n+m) % Q4)
 have nO:(wdW 4 0).size=(wdW 4 ((n+m) % Q4)).size:=by rw [zay,zay]
 have oO:=wdW_one 4 ((n+m) % Q4)
 generalize wdW 4 m=M at *
 generalize hz:wdW 4 0=z4 at *
 generalize hN0:wdW 4 n=N at *
 have hr0:RowsW (((w.alloc (.cells N 76)).alloc (.cells M 76)).alloc (.cells z4 76)) [(w.heap.size+1+1,z4,76),(w.heap.size+1,M,76),(w.heap.size,N,76)]:=by
  have h:=(((RowsW.nil w).box N 76).box M 76).box z4 76
  (try simp only [World.size_alloc] at h)
  exact h
 have hb0:Below w.heap.size w (((w.alloc (.cells N 76)).alloc (.cells M 76)).alloc (.cells z4 76)):=zab (zab (zab (Below.refl _ _) _) _) _
 have HR0:=yh hr0
 have HB0:=yh hb0
 clear hr0 hb0 hz hN0 hn hm
 go_enter Tryz.func150,Tryz.ntmps150
 go_wp2_with fail
 obtain ⟨W1,hW1⟩:∃ W,((w.alloc (.cells N 76)).alloc (.cells M 76)).alloc (.cells z4 76)=W:=⟨_,rfl⟩
 rw [hW1] at HR0 HB0
 rw [hW1]
 obtain ⟨g,hg⟩:∃ g,w.heap.size=g:=⟨_,rfl⟩
 rw [hg] at HR0
 rw [hg]
 have HG:=yh hg
 clear hW1 hg
 have HI:Hid (Lp w W1 g (wsA (wsL 4 n)) 76 [(g+1,M,76),(g+1+1,z4,76)]):=yh ⟨by rw [← HNL.out];exact ⟨HR0.out.tail.tail.head,HR0.out.tail.head,HR0.out.head,trivial⟩,by rw [HG.out];exact Nat.le_refl _,by simp;omega,HB0.out⟩
 clear HR0 HB0 HNL
 go_loopw [5,7] (fun c_ i_ wr=>∃ (k:Nat) (l:List Nat) (cc:Nat),k≤4∧i_=.int .i64 (k:Int)∧c_=.int .u64 (cc:Int)∧Hid (Ws 4 l)∧Hid (cc≤1)∧Hid (vQ l+cc*Q64^k=n+m % Q64^k)∧Hid (Lp w wr g (wsA l) 76 [(g+1,M,76),(g+1+1,z4,76)])) (fun _ i_ _=>4-(intOf i_).toNat)
 case atStart=>exact ⟨0,wsL 4 n,0,by omega,rfl,rfl,HWS,yh (by omega),yh (by rw [HV0.out];simp [Nat.mod_one]),HI⟩
 case round =>
  clear HI HWS HV0
  obtain ⟨k,l,cc,hk,rfl,rfl,HWS,HC,HV,HI⟩:=hrel
  by_cases hlt:k<4
  ·have ha:=HWS.out.lt k hlt
   have hb:=wq_lt m k
   have cn:wr.cell? ⟨g,k,none⟩=some (.int .u64 ((l.getD k 0:Nat):Int)):=by rw [cell_of_row _ _ _ _ _ _ HI.out.rows.head,wsA_get _ _ (by rw [HWS.out.len];exact hlt)]
   have cm:wr.cell? ⟨g+1,k,none⟩=some (.int .u64 (wq m k:Int)):=by rw [cell_of_row _ _ _ _ _ _ HI.out.rows.tail.head,HWM.out _ hlt]
   have fz:=HI.out.fz k
   obtain ⟨z,d,s,e,lz⟩:=add_ex (l.getD k 0) (wq m k) cc HC.out
   have HV2:Hid (vQ (l.set k z)+d*Q64^(k+1)=n+m % Q64^(k+1)):=yh (by
    rw [mod_q,Nat.pow_succ]
    exact add_wd e (vQ_set l k z (by rw [HWS.out.len];exact hlt)) HV.out)
   have HC2:Hid (d≤1):=yh (by have:=HC.out;unfold Q64 at ha hb;omega)
   have HWS2:=yh (HWS.out.set k z lz)
   have HI2:Hid (Lp w (wr.drew.setCell ⟨g,k,none⟩ (.int .u64 (z:Int))) g (wsA (l.set k z)) 76 [(g+1,M,76),(g+1+1,z4,76)]):=yh (by
    rw [← wsA_set]
    exact (HI.out.drew).set k _)
   generalize l.getD k 0=a at *
   obtain ⟨b,hbm⟩:∃ b,wq m k=b:=⟨_,rfl⟩
   rw [hbm] at cm s e hb
   have HBM:=yh hbm
   clear hbm
   have b5:0≤(k:Int):=by omega
   have b6:(k:Int)<4:=by omega
   have cnd:wr.drew.cell? ⟨g,k,none⟩=some (.int .u64 (a:Int)):=cn
   have fzd:wr.drew.frozen? ⟨g,k,none⟩=false:=fz
   have cmd:wr.drew.cell? ⟨g+1,k,none⟩=some (.int .u64 (b:Int)):=cm
   have HS2:Hid ((wr.drew.setCell ⟨g,k,none⟩ (.int .u64 (z:Int))).cell? ⟨g+1,k,none⟩=some (.int .u64 (b:Int))):=yh (by rw [cell_of_row _ _ _ _ _ _ HI2.out.rows.tail.head,HWM.out _ hlt,HBM.out])
   clear HI HWS HC HV ha hb e lz hlt cn cm fz
   go_upto_region 5 with fail
   refine wp_region_noPanic ?_
   refine wp_region_held_drew (S:=fun W=>W.cell? ⟨g+1,k,none⟩=some (.int .u64 (b:Int))) (by kernel_rfl) (by exact cmd) (fun hS=>?_)
   refine' yk 0  hS ?_
   refine' yk 1  hS ?_
   refine' yk 2  hS ?_
   refine' yk 4  hS ?_
   refine' yk 5  hS ?_
   refine' yk 6  hS ?_ (hy:=by intro W hSW;have hc:W.cell? ⟨g+1,k,none⟩=some (.int .u64 (b:Int)):=hSW;go_simp;try with_reducible rfl)
   refine' yk 7  hS ?_
   refine xk 3  (fun K hK=>?_)
   go_simp
   refine hK.out _ _ (by exact hS) (fun hS=>?_)
   clear hK K
   refine' yk 8  hS ?_
   refine' yk 9  hS ?_
   refine' yk 10  hS ?_
   refine' yk 11  hS ?_
   refine' yk 12  hS ?_
   refine xk 13  (fun K hK=>?_)
   go_simp
   refine hK.out _ _ (by exact HS2.out) (fun hS=>?_)
   clear hK K
   refine' yk 14  hS ?_
   refine wpAnyH_done (by kernel_rfl) ?_ _
   refine NoPanic.normal ?_
   (try simp only [Act.put])
   go_wp2_with fail
   go_roundw
   case rel=>exact ⟨k+1,_,d,by omega,by go_num,rfl,HWS2,HC2,HV2,HI2⟩
   case measure=>simp [intOf];omega
  ·obtain rfl:k=4:=by omega
   have hv:=sum_end (V:=vQ l) (c:=cc) (n:=n) (m:=m) (P:=Q4) (by have:=HV.out;rw [q4_is,Nat.mod_eq_of_lt HM.out] at this;exact this) (by rw [← q4_is];exact vQ_lt HWS.out)
   rw [ws_row HWS.out hv] at HI
   generalize wdW 4 ((n+m) % Q4)=OUT at *
   have h1:=HI.out.rows.head
   have h0:=HI.out.rows.tail.tail.head
   have HB:Hid (Below w.heap.size w (wr.setRow (g+1+1) OUT)):=yh (zac HI.out.below (by rw [HG.out];omega))
   clear HI HV HWS hv
   go_wp2_with (first
    | (refine yi h1 Tryz.underlying76 iO ?_)
    | (refine yj OUT h0 iO nO oO ?_))
   (try simp only [Exit.inBlock,Exit.then])
   refine bodyPost_ret (results_cell_row rfl _ _ (g+1+1) _ OUT _ _ rfl (setRow_heap _ _ _ _ _ _ h0) Tryz.underlying76 rfl iO) rfl ?_
   exact ⟨rfl,HB.out⟩
theorem scminus_any (n m:Nat) (hn:n<Q4) (hm:m<Q4) (w:World):Calls Tryz.prog 88 #[.agg (wdW 4 n),.agg (wdW 4 m)] w (RetV w (.tuple #[.agg (wdW 4 ((n+(Q4-m)) % Q4)),.bool (decide (n<m))])):=by
 have hz4:=wd4_zero
 have HWM:Hid (∀ d,d<4→(wdW 4 m)[d]?=some (.int .u64 (wq m d:Int))):=yh fun d h=>wdW_get 4 m d h
 have HNL:Hid (wdW 4 n=wsA (wsL 4 n)):=yh rfl
 have HWS:=yh (wsL_ws 4 n)
 have HV0:Hid (vQ (wsL 4 n)=n):=yh (vQ_eq (by rw [q4_is];exact hn))
 have HN:=yh hn
 have HM:=yh hm
 have iO:=zaW ((n+(Q4-m)) % Q4)
 have nO:(wdW 4 0).size=(wdW 4 ((n+(Q4-m)) % Q4)).size:=by rw [zay,zay]
 have oO:=wdW_one 4 ((n+(Q4-m)) % Q4)
 generalize wdW 4 m=M at *
 generalize hz:wdW 4 0=z4 at *
 generalize hN0:wdW 4 n=N at *
 have hr0:RowsW (((w.alloc (.cells N 76)).alloc (.cells M 76)).alloc (.cells z4 76)) [(w.heap.size+1+1,z4,76),(w.heap.size+1,M,76),(w.heap.size,N,76)]:=by
  have h:=(((RowsW.nil w).box N 76).box M 76).box z4 76
  (try simp only [World.size_alloc] at h)
  exact h
 have hb0:Below w.heap.size w (((w.alloc (.cells N 76)).alloc (.cells M 76)).alloc (.cells z4 76)):=zab (zab (zab (Below.refl _ _) _) _) _
 have HR0:=yh hr0
 have HB0:=yh hb0
 clear hr0 hb0 hz hN0 hn hm
 go_enter Tryz.func88,Tryz.ntmps88
 go_wp2_with fail
 obtain ⟨W1,hW1⟩:∃ W,((w.alloc (.cells N 76)).alloc (.cells M 76)).alloc (.cells z4 76)=W:=⟨_,rfl⟩
 rw [hW1] at HR0 HB0
 rw [hW1]
 obtain ⟨g,hg⟩:∃ g,w.heap.size=g:=⟨_,rfl⟩
 rw [hg] at HR0
 rw [hg]
 have HG:=yh hg
 clear hW1 hg
 have HI:Hid (Lp w W1 g (wsA (wsL 4 n)) 76 [(g+1,M,76),(g+1+1,z4,76)]):=yh ⟨by rw [← HNL.out];exact ⟨HR0.out.tail.tail.head,HR0.out.tail.head,HR0.out.head,trivial⟩,by rw [HG.out];exact Nat.le_refl _,by simp;omega,HB0.out⟩
 clear HR0 HB0 HNL
 go_loopw [6,8] (fun c_ i_ wr=>∃ (k:Nat) (l:List Nat) (cc:Nat),k≤4∧i_=.int .i64 (k:Int)∧c_=.int .u64 (cc:Int)∧Hid (Ws 4 l)∧Hid (cc≤1)∧Hid (vQ l+m % Q64^k=n+cc*Q64^k)∧Hid (Lp w wr g (wsA l) 76 [(g+1,M,76),(g+1+1,z4,76)])) (fun _ i_ _=>4-(intOf i_).toNat)
 case atStart=>exact ⟨0,wsL 4 n,0,by omega,rfl,rfl,HWS,yh (by omega),yh (by rw [HV0.out];simp [Nat.mod_one]),HI⟩
 case round =>
  clear HI HWS HV0
  obtain ⟨k,l,cc,hk,rfl,rfl,HWS,HC,HV,HI⟩:=hrel
  by_cases hlt:k<4
  ·have ha:=HWS.out.lt k hlt
   have hb:=wq_lt m k
   have cn:wr.cell? ⟨g,k,none⟩=some (.int .u64 ((l.getD k 0:Nat):Int)):=by rw [cell_of_row _ _ _ _ _ _ HI.out.rows.head,wsA_get _ _ (by rw [HWS.out.len];exact hlt)]
   have cm:wr.cell? ⟨g+1,k,none⟩=some (.int .u64 (wq m k:Int)):=by rw [cell_of_row _ _ _ _ _ _ HI.out.rows.tail.head,HWM.out _ hlt]
   have fz:=HI.out.fz k
   obtain ⟨z,d,s,e,lz,ld⟩:=sub_ex (l.getD k 0) (wq m k) cc ha hb HC.out
   have HV2:Hid (vQ (l.set k z)+m % Q64^(k+1)=n+d*Q64^(k+1)):=yh (by
    rw [mod_q,Nat.pow_succ]
    exact sub_wd e (vQ_set l k z (by rw [HWS.out.len];exact hlt)) HV.out)
   have HC2:=yh ld
   have HWS2:=yh (HWS.out.set k z lz)
   have HI2:Hid (Lp w (wr.drew.setCell ⟨g,k,none⟩ (.int .u64 (z:Int))) g (wsA (l.set k z)) 76 [(g+1,M,76),(g+1+1,z4,76)]):=yh (by
    rw [← wsA_set]
    exact (HI.out.drew).set k _)
   generalize l.getD k 0=a at *
   obtain ⟨b,hbm⟩:∃ b,wq m k=b:=⟨_,rfl⟩
   rw [hbm] at cm s e hb
   have HBM:=yh hbm
   clear hbm
   have b5:0≤(k:Int):=by omega
   have b6:(k:Int)<4:=by omega
   have cnd:wr.drew.cell? ⟨g,k,none⟩=some (.int .u64 (a:Int)):=cn
   have fzd:wr.drew.frozen? ⟨g,k,none⟩=false:=fz
   have cmd:wr.drew.cell? ⟨g+1,k,none⟩=some (.int .u64 (b:Int)):=cm
   have HS2:Hid ((wr.drew.setCell ⟨g,k,none⟩ (.int .u64 (z:Int))).cell? ⟨g+1,k,none⟩=some (.int .u64 (b:Int))):=yh (by rw [cell_of_row _ _ _ _ _ _ HI2.out.rows.tail.head,HWM.out _ hlt,HBM.out])
   clear HI HWS HC HV ha hb e lz hlt cn cm fz
   go_upto_region 5 with fail
   refine wp_region_noPanic ?_
   refine wp_region_held_drew (S:=fun W=>W.cell? ⟨g+1,k,none⟩=some (.int .u64 (b:Int))) (by kernel_rfl) (by exact cmd) (fun hS=>?_)
   refine' yk 0  hS ?_
   refine' yk 1  hS ?_
   refine' yk 2  hS ?_
   refine' yk 4  hS ?_
   refine' yk 5  hS ?_
   refine' yk 6  hS ?_ (hy:=by intro W hSW;have hc:W.cell? ⟨g+1,k,none⟩=some (.int .u64 (b:Int)):=hSW;go_simp;try with_reducible rfl)
   refine' yk 7  hS ?_
   refine xk 3  (fun K hK=>?_)
   go_simp
   refine hK.out _ _ (by exact hS) (fun hS=>?_)
   clear hK K
   refine' yk 8  hS ?_
   refine' yk 9  hS ?_
   refine' yk 10  hS ?_
   refine' yk 11  hS ?_
   refine' yk 12  hS ?_
   refine xk 13  (fun K hK=>?_)
   go_simp
   refine hK.out _ _ (by exact HS2.out) (fun hS=>?_)
   clear hK K
   refine' yk 14  hS ?_
   refine wpAnyH_done (by kernel_rfl) ?_ _
   refine NoPanic.normal ?_
   (try simp only [Act.put])
   go_wp2_with fail
   go_roundw
   case rel=>exact ⟨k+1,_,d,by omega,by go_num,rfl,HWS2,HC2,HV2,HI2⟩
   case measure=>simp [intOf];omega
  ·obtain rfl:k=4:=by omega
   have hv:=dif_end (V:=vQ l) (b:=cc) (n:=n) (m:=m) (P:=Q4) (by have:=HV.out;rw [q4_is,Nat.mod_eq_of_lt HM.out] at this;exact this) (by rw [← q4_is];exact vQ_lt HWS.out) HN.out HM.out HC.out
   have hd:Hid (decide (n<m)=((cc:Int) == 1)):=yh (by
    have h1:=HC.out
    have:cc=0∨cc=1:=by omega
    rcases this with rfl | rfl
    ·rw [decide_eq_false (fun h=>absurd (hv.2.2 h) (by omega))];rfl
    ·rw [decide_eq_true (hv.2.1 rfl)];rfl)
   rw [ws_row HWS.out hv.1] at HI
   generalize wdW 4 ((n+(Q4-m)) % Q4)=OUT at *
   have h1:=HI.out.rows.head
   have h0:=HI.out.rows.tail.tail.head
   have HB:Hid (Below w.heap.size w (wr.setRow (g+1+1) OUT)):=yh (zac HI.out.below (by rw [HG.out];omega))
   clear HI HV HWS hv
   go_wp2_with (first
    | (refine yi h1 Tryz.underlying76 iO ?_)
    | (refine yj OUT h0 iO nO oO ?_))
   (try simp only [Exit.inBlock,Exit.then])
   refine bodyPost_ret (zaE rfl _ _ (g+1+1) _ OUT _ _ (.bool ((cc:Int) == 1)) rfl rfl (setRow_heap _ _ _ _ _ _ h0) Tryz.underlying76 rfl iO) rfl ?_
   exact ⟨by rw [hd.out],HB.out⟩
theorem or_high (p z k:Nat) (hp:p<2^k) (hp2:p<18446744073709551616) (hm:2^k*z<18446744073709551616):bits .or .u64 ((2^k*z:Nat):Int) (p:Int)=((p+2^k*z:Nat):Int):=by
 rw [u64_or_nat (2^k*z) p hm hp2,← Nat.two_pow_add_eq_or_of_lt hp,Nat.add_comm]
theorem and60 (n:Nat) (h:n<18446744073709551616):bits .and .u64 (n:Int) 1152921504606846975=((n % 1152921504606846976:Nat):Int):=by
 have h:=u64_and_nat n 1152921504606846975 h (by omega)
 rw [show (1152921504606846975:Nat)=2^60-1 by decide,Nat.and_two_pow_sub_one_eq_mod] at h
 exact h
theorem wd4_zeroL (u:World):(zeroValue 76).run Tryz.prog u=.ok (.agg #[.int .u64 0,.int .u64 0,.int .u64 0,.int .u64 0]) u:=wd4_zero u
theorem sc_order_row:#[Value.int .u64 6346243789798364141,.int .u64 1503914060200516822,.int .u64 0,.int .u64 1152921504606846976]=wdW 4 LL :=
 four_row 6346243789798364141 1503914060200516822 0 1152921504606846976 LL (by decide) (by decide) (by decide) (by decide) (by decide)
theorem scorder_any (w:World):Calls Tryz.prog 44 #[] w (RetV w (.agg (wdW 4 LL))):=by
 have hz4:=wd4_zeroL
 rw [← sc_order_row]
 go_enter Tryz.func44,Tryz.ntmps44
 go_wp2
 refine bodyPost_ret (v:=.agg #[.int .u64 6346243789798364141,.int .u64 1503914060200516822,.int .u64 0,.int .u64 1152921504606846976]) (by simp [results,Tryz.results44,go_sem]) rfl ⟨rfl,?_⟩
 exact (Below.refl _ _).alloc (Nat.le_refl _) _
theorem screst_any (q:Nat) (hq:q<68719476736) (w:World):Calls Tryz.prog 149 #[.int .u64 (q:Int)] w (RetV w (.agg (wdW 4 (q*R11)))):=by
 have hz4:=wd4_zeroL
 obtain ⟨u,l,M0,m0,p0,q0⟩:=mul_ex q 6346243789798364141 (by omega) (by omega)
 obtain ⟨t,v,M1,m1,p1,q1⟩:=mul_ex q 1503914060200516822 (by omega) (by omega)
 obtain ⟨z,d,s,e,lz⟩:=add_ex v u 0 (by omega)
 have hf:IntKind.u64.wrap ((t:Int)+(d:Int))=((t+d:Nat):Int):=by rw [IntKind.wrap_u64];omega
 have hrow:=four_row l z (t+d) 0 (q*R11) (by unfold Q64;omega) (by unfold Q64;omega) (by unfold Q64;omega) (by decide) (by unfold Q64 R11;omega)
 rw [← hrow]
 have HM0:Hid (∀ w:World,Calls Tryz.prog 147 #[.int .u64 (q:Int),.int .u64 6346243789798364141] w fun e w'=>e=.returned (.tuple #[.int .u64 (u:Int),.int .u64 (l:Int)])∧w'=w):=M0
 have HM1:Hid (∀ w:World,Calls Tryz.prog 147 #[.int .u64 (q:Int),.int .u64 1503914060200516822] w fun e w'=>e=.returned (.tuple #[.int .u64 (t:Int),.int .u64 (v:Int)])∧w'=w):=M1
 simp only [Int.ofNat_zero] at s
 generalize t+d=td at *
 clear m0 m1 e lz M0 M1 hrow hq p0 q0 p1 q1
 go_enter Tryz.func149,Tryz.ntmps149
 go_wp2_with fail
 with_reducible refine (HM0.out _).mono ?_
 rintro e w' ⟨rfl,rfl⟩
 go_wp2_with fail
 with_reducible refine (HM1.out _).mono ?_
 rintro e w' ⟨rfl,rfl⟩
 go_wp2
 refine bodyPost_ret (v:=.agg #[.int .u64 (l:Int),.int .u64 (z:Int),.int .u64 (td:Int),.int .u64 0]) (by simp [results,Tryz.results149,go_sem]) rfl ⟨rfl,?_⟩
 exact (Below.refl _ _).alloc (Nat.le_refl _) _
theorem scnext_any (n v:Nat) (hn:n<LL) (hv:v<4294967296) (w:World):Calls Tryz.prog 110 #[.agg (wdW 4 n),.int .u32 (v:Int)] w (RetV w (.agg (wdW 4 ((n*2^32+v) % LL)))):=by
 have hz4:=wd4_zeroL
 obtain ⟨Sn,qn,On,i1,i2,i3,i4,hOl,hO,e1,e2⟩:=next_ex hn hv
 rw [hO]
 have iO:=zaW On
 have oO:=wdW_one 4 On
 have sO:(#[.int .u64 0,.int .u64 0,.int .u64 0,.int .u64 0]:Array Value).size=(wdW 4 On).size:=by rw [zay];rfl
 rw [wdW_four n]
 have h0:=wq_lt n 0
 have h1:=wq_lt n 1
 have h2:=wq_lt n 2
 have h3:=wq_lt n 3
 generalize wq n 0=n0 at *
 generalize wq n 1=n1 at *
 generalize wq n 2=n2 at *
 generalize wq n 3=n3 at *
 unfold Q64 at h0 h1 h2 h3
 have HREST:=yh fun W:World=>screst_any (n3/268435456) (by omega) W
 have HMIN:Hid (∀ W:World,Calls Tryz.prog 88 #[.agg (wdW 4 Sn),.agg (wdW 4 (n3/268435456*R11))] W (RetV W (.tuple #[.agg (wdW 4 ((Sn+(Q4-n3/268435456*R11)) % Q4)),.bool (decide (Sn<n3/268435456*R11))]))):=yh fun W=>scminus_any _ _ (Nat.lt_trans i2 (by decide)) (by rw [e2];exact Nat.lt_trans i1 (by decide)) W
 have HPLUS:Hid (∀ W:World,Sn<qn*R11→Calls Tryz.prog 150 #[.agg (wdW 4 ((Sn+(Q4-qn*R11)) % Q4)),.agg (wdW 4 LL)] W (RetV W (.agg (wdW 4 On)))):=yh fun W h=>by
  have hm:(Sn+(Q4-qn*R11)) % Q4<Q4:=Nat.mod_lt _ (by decide)
  have e:=min_less i2 i1 h (i3 h) hOl
  have:=scplus_any ((Sn+(Q4-qn*R11)) % Q4) LL hm (by decide) W
  rwa [e] at this
 have HELSE:Hid (¬ Sn<qn*R11→wdW 4 ((Sn+(Q4-qn*R11)) % Q4)=wdW 4 On):=yh fun h=>by
  rw [min_else i2 i1 h (i4 h)]
 have HORD:=yh fun W:World=>scorder_any W
 rw [e2] at HREST HMIN
 obtain ⟨dd,hdd⟩:∃ d,wdW 4 ((Sn+(Q4-qn*R11)) % Q4)=d:=⟨_,rfl⟩
 have iD:(Tryz.prog.info? 76).map (·.size)=some dd.size:=by rw [← hdd];exact zaW _
 have sD:(#[.int .u64 0,.int .u64 0,.int .u64 0,.int .u64 0]:Array Value).size=dd.size:=by rw [← hdd,zay];rfl
 have oD:dd.all (·.oneCell')=true:=by rw [← hdd];exact wdW_one _ _
 have sDO:dd.size=(wdW 4 On).size:=by rw [← hdd,zay,zay]
 rw [hdd] at HMIN HPLUS HELSE
 have hrow:=four_row (v+2^32*(n0 % 4294967296)) (n0/4294967296+2^32*(n1 % 4294967296)) (n1/4294967296+2^32*(n2 % 4294967296)) (n2/4294967296+2^32*(n3 % 268435456)) Sn (by unfold Q64;omega) (by unfold Q64;omega) (by unfold Q64;omega) (by unfold Q64;omega) e1
 have a3:=and60 (2^32*(n3 % 4294967296)) (by omega)
 rw [show 2^32*(n3 % 4294967296) % 1152921504606846976=2^32*(n3 % 268435456) by omega] at a3
 have r0:=or_high v (n0 % 4294967296) 32 (by omega) (by omega) (by omega)
 have r1:=or_high (n0/4294967296) (n1 % 4294967296) 32 (by omega) (by omega) (by omega)
 have r2:=or_high (n1/4294967296) (n2 % 4294967296) 32 (by omega) (by omega) (by omega)
 have r3:=or_high (n2/4294967296) (n3 % 268435456) 32 (by omega) (by omega) (by omega)
 have d0:(n0:Int)/4294967296=((n0/4294967296:Nat):Int):=by omega
 have d1:(n1:Int)/4294967296=((n1/4294967296:Nat):Int):=by omega
 have d2:(n2:Int)/4294967296=((n2/4294967296:Nat):Int):=by omega
 have d3:(n3:Int)/268435456=(qn:Int):=by omega
 have m0:IntKind.u64.wrap ((n0:Int)*4294967296)=((2^32*(n0 % 4294967296):Nat):Int):=by rw [IntKind.wrap_u64];omega
 have m1:IntKind.u64.wrap ((n1:Int)*4294967296)=((2^32*(n1 % 4294967296):Nat):Int):=by rw [IntKind.wrap_u64];omega
 have m2:IntKind.u64.wrap ((n2:Int)*4294967296)=((2^32*(n2 % 4294967296):Nat):Int):=by rw [IntKind.wrap_u64];omega
 have m3:IntKind.u64.wrap ((n3:Int)*4294967296)=((2^32*(n3 % 4294967296):Nat):Int):=by rw [IntKind.wrap_u64];omega
 have v0:IntKind.u64.wrap (v:Int)=(v:Int):=by rw [IntKind.wrap_u64];omega
 clear e1 e2 i1 i2 i3 i4 hO hOl
 generalize v+2^32*(n0 % 4294967296)=o0 at *
 generalize n0/4294967296+2^32*(n1 % 4294967296)=o1 at *
 generalize n1/4294967296+2^32*(n2 % 4294967296)=o2 at *
 generalize n2/4294967296+2^32*(n3 % 268435456)=o3 at *
 generalize 2^32*(n0 % 4294967296)=s0 at *
 generalize 2^32*(n1 % 4294967296)=s1 at *
 generalize 2^32*(n2 % 4294967296)=s2 at *
 generalize 2^32*(n3 % 4294967296)=s3 at *
 generalize 2^32*(n3 % 268435456)=s4 at *
 generalize n0/4294967296=y0 at *
 generalize n1/4294967296=y1 at *
 generalize n2/4294967296=y2 at *
 have iS:(Tryz.prog.info? 76).map (·.size)=some (#[.int .u64 (o0:Int),.int .u64 (o1:Int),.int .u64 (o2:Int),.int .u64 (o3:Int)]:Array Value).size:=by kernel_rfl
 have sS:(#[.int .u64 0,.int .u64 0,.int .u64 0,.int .u64 0]:Array Value).size=(#[.int .u64 (o0:Int),.int .u64 (o1:Int),.int .u64 (o2:Int),.int .u64 (o3:Int)]:Array Value).size:=rfl
 have oS:(#[.int .u64 (o0:Int),.int .u64 (o1:Int),.int .u64 (o2:Int),.int .u64 (o3:Int)]:Array Value).all (·.oneCell')=true:=by simp [Value.oneCell']
 have iSW:=zaW Sn
 generalize wdW 4 Sn=SW at *
 generalize wdW 4 On=OUT at *
 obtain ⟨bb,hbb⟩:∃ b,decide (Sn<qn*R11)=b:=⟨_,rfl⟩
 rw [hbb] at HMIN
 have HBB:=yh hbb
 have HROW:=yh hrow
 have KiD:=yh iD
 have KsD:=yh sD
 have KoD:=yh oD
 have KsDO:=yh sDO
 have KiO:=yh iO
 have KsO:=yh sO
 have KoO:=yh oO
 clear h0 h1 h2 h3 hbb hrow hdd hn hv iD sD oD sDO iO sO oO
 have hr0:RowsW (((w.alloc (.cells #[.int .u64 (n0:Int),.int .u64 (n1:Int),.int .u64 (n2:Int),.int .u64 (n3:Int)] 76)).alloc (.cells #[.int .u64 0,.int .u64 0,.int .u64 0,.int .u64 0] 76)).alloc (.cells #[.int .u64 0,.int .u64 0,.int .u64 0,.int .u64 0] 76)) [(w.heap.size+1+1,#[.int .u64 0,.int .u64 0,.int .u64 0,.int .u64 0],76),(w.heap.size+1,#[.int .u64 0,.int .u64 0,.int .u64 0,.int .u64 0],76),(w.heap.size,#[.int .u64 (n0:Int),.int .u64 (n1:Int),.int .u64 (n2:Int),.int .u64 (n3:Int)],76)]:=by
  have h:=(((RowsW.nil w).box #[.int .u64 (n0:Int),.int .u64 (n1:Int),.int .u64 (n2:Int),.int .u64 (n3:Int)] 76).box #[.int .u64 0,.int .u64 0,.int .u64 0,.int .u64 0] 76).box #[.int .u64 0,.int .u64 0,.int .u64 0,.int .u64 0] 76
  (try simp only [World.size_alloc] at h)
  exact h
 have hb0:Below w.heap.size w (((w.alloc (.cells #[.int .u64 (n0:Int),.int .u64 (n1:Int),.int .u64 (n2:Int),.int .u64 (n3:Int)] 76)).alloc (.cells #[.int .u64 0,.int .u64 0,.int .u64 0,.int .u64 0] 76)).alloc (.cells #[.int .u64 0,.int .u64 0,.int .u64 0,.int .u64 0] 76)):=zab (zab (zab (Below.refl _ _) _) _) _
 have HR0:=yh hr0
 have HB0:=yh hb0
 clear hr0 hb0
 have h3:=HR0.out.head
 go_enter Tryz.func110,Tryz.ntmps110
 go_upto_region 3 with (refine yj #[.int .u64 (o0:Int),.int .u64 (o1:Int),.int .u64 (o2:Int),.int .u64 (o3:Int)] h3 iS sS oS ?_)
 rw [HROW.out]
 have HR1:Hid (RowsW ((((w.alloc (.cells #[.int .u64 (n0:Int),.int .u64 (n1:Int),.int .u64 (n2:Int),.int .u64 (n3:Int)] 76)).alloc (.cells #[.int .u64 0,.int .u64 0,.int .u64 0,.int .u64 0] 76)).alloc (.cells #[.int .u64 0,.int .u64 0,.int .u64 0,.int .u64 0] 76)).setRow (w.heap.size+1+1) SW) [(w.heap.size+1+1,SW,76),(w.heap.size+1,#[.int .u64 0,.int .u64 0,.int .u64 0,.int .u64 0],76)]):=yh ⟨setRow_heap _ _ _ _ _ _ h3,by rw [setRow_other _ _ _ _ (by omega)];exact HR0.out.tail.head,trivial⟩
 have HB1:Hid (Below w.heap.size w ((((w.alloc (.cells #[.int .u64 (n0:Int),.int .u64 (n1:Int),.int .u64 (n2:Int),.int .u64 (n3:Int)] 76)).alloc (.cells #[.int .u64 0,.int .u64 0,.int .u64 0,.int .u64 0] 76)).alloc (.cells #[.int .u64 0,.int .u64 0,.int .u64 0,.int .u64 0] 76)).setRow (w.heap.size+1+1) SW)):=yh (zac HB0.out (by omega))
 obtain ⟨W1,hW1⟩:∃ W,(((w.alloc (.cells #[.int .u64 (n0:Int),.int .u64 (n1:Int),.int .u64 (n2:Int),.int .u64 (n3:Int)] 76)).alloc (.cells #[.int .u64 0,.int .u64 0,.int .u64 0,.int .u64 0] 76)).alloc (.cells #[.int .u64 0,.int .u64 0,.int .u64 0,.int .u64 0] 76)).setRow (w.heap.size+1+1) SW=W:=⟨_,rfl⟩
 rw [hW1] at HR1 HB1
 rw [hW1]
 obtain ⟨g,hg⟩:∃ g,w.heap.size=g:=⟨_,rfl⟩
 rw [hg] at HR1
 rw [hg]
 have HG:=yh hg
 clear hg hW1 h3 HR0 HB0 r0 r1 r2 r3 d0 d1 d2 d3 m0 m1 m2 m3 a3 v0 HROW iS sS oS
 refine wp_region_noPanic ?_
 refine zai 7 7 76 #[.int .u64 0,.int .u64 0,.int .u64 0,.int .u64 0] (by kernel_rfl) (by kernel_rfl) ⟨by kernel_rfl,by kernel_rfl,wd4_zeroL,fun _ _ _ h=>h⟩ (fun hA hS=>?_)
 refine' yD 0 hA hS ?_ (hy:=fun W hSW=>zad rfl rfl ((HR1.out.below hSW).head) Tryz.underlying76 rfl iSW)
 refine' yD 1 hA hS ?_
 refine xE 2 hA hS (fun oq Wq hS K hK=>?_)
 go_simp
 with_reducible refine (HREST.out Wq).mono ?_
 rintro e uq ⟨rfl,hbq⟩
 refine hK.out _ _ hbq (fun hS=>?_)
 clear hK K hbq
 refine xE 3 hA hS (fun oq Wq hS K hK=>?_)
 go_simp
 with_reducible refine (HMIN.out Wq).mono ?_
 rintro e uq ⟨rfl,hbq⟩
 refine hK.out _ _ hbq (fun hS=>?_)
 clear hK K hbq
 refine' yD 4 hA hS ?_
 refine' yD 5 hA hS ?_
 refine' yD 6 hA hS ?_
 refine' zax 8 hA rfl (by kernel_rfl) (by kernel_rfl) (by kernel_rfl) hS (by kernel_rfl) rfl (by intro h;cases h) KiD.out KsD.out KoD.out ?_ ?_
 rotate_left 1
 ·intro g;simp only [List.set_cons_succ,List.set_cons_zero];rfl
 intro gq Wq hgq hbq hrowq
 clear hA hS
 refine' take_at 9 rfl (by kernel_rfl) (by kernel_rfl) (by kernel_rfl) (fun _ _ _ h=>h) (by rfl) hbq ?_ ?_ ?_
 rotate_left 2
 ·intro W hSW;go_simp;try with_reducible rfl
 ·simp only [List.set_cons_succ,List.set_cons_zero];rfl
 refine wpAnyH_done (by kernel_rfl) ?_ _
 refine NoPanic.normal ?_
 (try simp only [Act.put])
 have HRq:Hid (RowsW Wq [(gq,dd,76),(g+1+1,SW,76),(g+1,#[.int .u64 0,.int .u64 0,.int .u64 0,.int .u64 0],76)]):=yh ⟨hrowq,HR1.out.below hbq⟩
 have HBq:=yh (zaa HB1.out hbq)
 have HGQ:Hid (W1.heap.size≤gq):=yh hgq
 have HGS:Hid (g+1+1<W1.heap.size):=yh (Array.getElem?_eq_some_iff.1 HR1.out.head).1
 clear hgq hbq hrowq HREST HMIN HR1 HB1
 have hgg:w.heap.size≤gq:=by rw [HG.out];have:=HGQ.out;have:=HGS.out;omega
 have hgn:gq≠g+1:=by have:=HGQ.out;have:=HGS.out;omega
 have HGG:=yh hgg
 have HGN:=yh hgn
 clear hgg hgn
 by_cases hlt:Sn<qn*R11
 ·have e0:bb=true:=by rw [← HBB.out];exact decide_eq_true hlt
  subst e0
  have HP:=yh fun W:World=>HPLUS.out W hlt
  clear hlt HPLUS HELSE HBB
  go_upto_region 5 with fail
  refine wp_region_noPanic ?_
  refine zah (S:=fun W=>Below Wq.heap.size Wq W) 2 (by kernel_rfl) ⟨by kernel_rfl,by kernel_rfl,by kernel_rfl,by kernel_rfl⟩ (by exact (Below.refl _ _).drew) (fun hT inv hS=>?_)
  refine' yT 0 hT inv hS (fun inv=>?_) (hy:=fun W hSW=>zad rfl rfl ((HRq.out.below hSW).head) Tryz.underlying76 rfl KiD.out)
  refine xT 1 inv (fun K hK=>?_)
  go_simp
  with_reducible refine (HORD.out _).mono ?_
  rintro e u1 ⟨rfl,hb1⟩
  have kb1:=zaa hS hb1
  clear hS hb1
  refine hK.out _ _ (by exact kb1) (fun inv hS=>?_)
  clear hK K
  refine zaD (by kernel_rfl) ?_
  simp only [List.drop_succ_cons,List.drop_zero]
  clear hS
  (try simp only [Act.put])
  have HR2:=yh (HRq.out.below kb1)
  have HB2:=yh (zaa HBq.out kb1)
  clear kb1
  go_wp2_with fail
  with_reducible refine (HP.out _).mono ?_
  rintro e w2 ⟨rfl,hb2⟩
  have HR3:=yh (HR2.out.below hb2)
  have HB3:=yh (zaa HB2.out hb2)
  clear hb2 HR2 HB2
  have hr3:=HR3.out.head
  go_wp2_with (refine yj OUT hr3 KiO.out KsDO.out KoO.out ?_)
  have HR4:Hid (RowsW (w2.setRow gq OUT) [(gq,OUT,76),(g+1,#[.int .u64 0,.int .u64 0,.int .u64 0,.int .u64 0],76)]):=yh ⟨setRow_heap _ _ _ _ _ _ hr3,by rw [setRow_other _ _ _ _ (Ne.symm HGN.out)];exact HR3.out.tail.tail.head,trivial⟩
  have HB4:Hid (Below w.heap.size w (w2.setRow gq OUT)):=yh (zac HB3.out HGG.out)
  obtain ⟨W4,hW4⟩:∃ W,w2.setRow gq OUT=W:=⟨_,rfl⟩
  rw [hW4] at HR4 HB4
  rw [hW4]
  clear hW4 hr3 HR3 HB3
  (try refine NoPanic.normal ?_)
  have h4:=HR4.out.head
  have h5:=HR4.out.tail.head
  have HE:Hid (Below w.heap.size w (W4.setRow (g+1) OUT)):=yh (zac HB4.out (by rw [HG.out];omega))
  go_wp2_with (first
   | (refine yi h4 Tryz.underlying76 KiO.out ?_)
   | (refine yj OUT h5 KiO.out KsO.out KoO.out ?_))
  (try simp only [Exit.inBlock,Exit.then])
  refine bodyPost_ret (results_cell_row rfl _ _ (g+1) _ OUT _ _ rfl (setRow_heap _ _ _ _ _ _ h5) Tryz.underlying76 rfl KiO.out) rfl ?_
  exact ⟨rfl,HE.out⟩
 ·have e0:bb=false:=by rw [← HBB.out];exact decide_eq_false hlt
  subst e0
  have hde:=HELSE.out hlt
  subst hde
  clear hlt HPLUS HELSE HBB
  have h4:=HRq.out.head
  have h5:=HRq.out.tail.tail.head
  have HE:Hid (Below w.heap.size w (Wq.setRow (g+1) dd)):=yh (zac HBq.out (by rw [HG.out];omega))
  go_wp2_with (first
   | (refine yi h4 Tryz.underlying76 KiO.out ?_)
   | (refine yj dd h5 KiO.out KsO.out KoO.out ?_))
  (try simp only [Exit.inBlock,Exit.then])
  refine bodyPost_ret (results_cell_row rfl _ _ (g+1) _ dd _ _ rfl (setRow_heap _ _ _ _ _ _ h5) Tryz.underlying76 rfl KiO.out) rfl ?_
  exact ⟨rfl,HE.out⟩
theorem screduced_any (n:Nat) (hn:n<Q64^8) (w:World):Calls Tryz.prog 55 #[.agg (wdW 8 n)] w (RetV w (.agg (wdW 4 (n % LL)))):=by
 have hz4:=wd4_zero
 have HN8:Hid (∀ d,d<8→(wdW 8 n)[d]?=some (.int .u64 (wq n d:Int))):=yh fun d h=>wdW_get 8 n d h
 have HZ0:Hid (wdW 4 0=wdW 4 (n/Q64^8 % LL)):=yh (by rw [Nat.div_eq_of_lt hn];rfl)
 have HE0:Hid (wdW 4 (n/Q64^0 % LL)=wdW 4 (n % LL)):=yh (by rw [Nat.pow_zero,Nat.div_one])
 have iO:=zaW (n % LL)
 have oO:=wdW_one 4 (n % LL)
 have sO:(wdW 4 0).size=(wdW 4 (n % LL)).size:=by rw [zay,zay]
 generalize wdW 4 (n % LL)=OUT at *
 generalize wdW 8 n=N8 at *
 generalize wdW 4 0=z4 at *
 clear hn
 have hr0:RowsW (((w.alloc (.cells N8 88)).alloc (.cells z4 76)).alloc (.cells z4 76)) [(w.heap.size+1+1,z4,76),(w.heap.size+1,z4,76),(w.heap.size,N8,88)]:=by
  have h:=(((RowsW.nil w).box N8 88).box z4 76).box z4 76
  (try simp only [World.size_alloc] at h)
  exact h
 have hb0:Below w.heap.size w (((w.alloc (.cells N8 88)).alloc (.cells z4 76)).alloc (.cells z4 76)):=zab (zab (zab (Below.refl _ _) _) _) _
 have HR0:=yh hr0
 have HB0:=yh hb0
 clear hr0 hb0
 go_enter Tryz.func55,Tryz.ntmps55
 go_wp2_with fail
 obtain ⟨W1,hW1⟩:∃ W,(((w.alloc (.cells N8 88)).alloc (.cells z4 76)).alloc (.cells z4 76))=W:=⟨_,rfl⟩
 rw [hW1] at HR0 HB0
 rw [hW1]
 obtain ⟨g,hg⟩:∃ g,w.heap.size=g:=⟨_,rfl⟩
 rw [hg] at HR0
 rw [hg]
 have HG:=yh hg
 clear hg
 clear hW1
 have HI:Hid (Lp w W1 (g+1+1) (wdW 4 (n/Q64^8 % LL)) 76 [(g+1,z4,76),(g,N8,88)]):=yh ⟨by rw [← HZ0.out];exact HR0.out,by rw [HG.out];omega,by simp;omega,HB0.out⟩
 clear HR0 HB0 HZ0
 go_loopw [4] (fun i_ wr=>∃ k:Nat,k≤8∧i_=.int .i64 ((k:Int)-1)∧Hid (Lp w wr (g+1+1) (wdW 4 (n/Q64^k % LL)) 76 [(g+1,z4,76),(g,N8,88)])) (fun i_ _=>(intOf i_+1).toNat)
 case atStart=>exact ⟨8,by omega,by rfl,HI⟩
 case round =>
  clear HI
  obtain ⟨k,hk,rfl,HI⟩:=hrel
  by_cases hlt:0<k
  ·obtain ⟨j,rfl⟩:∃ j,k=j+1:=⟨k-1,by omega⟩
   have ej:((j+1:Nat):Int)-1=(j:Int):=by omega
   rw [ej]
   have hw:=wq_lt n j
   have HNX:=yh (round_is n j)
   have hA:n/Q64^(j+1) % LL<LL:=Nat.mod_lt _ (by decide)
   unfold Q64 at hw
   generalize hx:wq n j=x at *
   have w1:IntKind.u32.wrap ((x:Int)/4294967296)=((x/4294967296:Nat):Int):=by rw [IntKind.wrap_u32];omega
   have w2:(x:Int) % 4294967296=((x % 4294967296:Nat):Int):=by omega
   have HN1:Hid (∀ W:World,Calls Tryz.prog 110 #[.agg (wdW 4 (n/Q64^(j+1) % LL)),.int .u32 (IntKind.u32.wrap ((x:Int)/4294967296))] W (RetV W (.agg (wdW 4 ((n/Q64^(j+1) % LL*2^32+x/4294967296) % LL))))):=yh fun W=>by rw [w1];exact scnext_any _ _ hA (by omega) W
   have HN2:Hid (∀ W:World,Calls Tryz.prog 110 #[.agg (wdW 4 ((n/Q64^(j+1) % LL*2^32+x/4294967296) % LL)),.int .u32 ((x:Int) % 4294967296)] W (RetV W (.agg (wdW 4 (n/Q64^j % LL))))):=yh fun W=>by
    rw [w2]
    have:=scnext_any ((n/Q64^(j+1) % LL*2^32+x/4294967296) % LL) (x % 4294967296) (Nat.mod_lt _ (by decide)) (by omega) W
    rw [HNX.out] at this
    exact this
   have HX:Hid (∀ W:World,Below wr.heap.size wr W→W.cell? ⟨g,j,none⟩=some (.int .u64 (x:Int))):=yh fun W hb=>by
    have h:=(HI.out.rows.below hb).tail.tail.head
    rw [cell_of_row _ _ _ _ _ _ h,HN8.out _ (by omega),hx]
   have iA:=zaW (n/Q64^(j+1) % LL)
   have iB:=zaW (n/Q64^j % LL)
   have oB:=wdW_one 4 (n/Q64^j % LL)
   have sB:(wdW 4 (n/Q64^(j+1) % LL)).size=(wdW 4 (n/Q64^j % LL)).size:=by rw [zay,zay]
   generalize wdW 4 (n/Q64^(j+1) % LL)=NA at *
   generalize wdW 4 ((n/Q64^(j+1) % LL*2^32+x/4294967296) % LL)=NM at *
   obtain ⟨NB,hNB⟩:∃ c,wdW 4 (n/Q64^j % LL)=c:=⟨_,rfl⟩
   rw [hNB] at HN2 iB oB sB
   have HNB:=yh hNB
   have b1:0≤(j:Int):=by omega
   have b2:(j:Int)<8:=by omega
   have HK:=yh hk
   clear hx hw w1 w2 hA hNB ej hk hlt HNX
   go_upto_region 5 with fail
   refine wp_region_noPanic ?_
   refine zah (S:=fun W=>Below wr.heap.size wr W) 11 (by kernel_rfl) ⟨by kernel_rfl,by kernel_rfl,by kernel_rfl,by kernel_rfl⟩ (by exact (Below.refl _ _).drew) (fun hT inv hS=>?_)
   refine' yT 0 hT inv hS (fun inv=>?_) (hy:=fun W hSW=>zad rfl rfl ((HI.out.rows.below hSW).head) Tryz.underlying76 rfl iA)
   refine' yT 1 hT inv hS (fun inv=>?_)
   refine' yT 2 hT inv hS (fun inv=>?_)
   refine' yT 3 hT inv hS (fun inv=>?_) (hy:=by intro W hSW;have hc:=HX.out W hSW;go_simp;try with_reducible rfl)
   refine' yT 4 hT inv hS (fun inv=>?_)
   refine' yT 5 hT inv hS (fun inv=>?_)
   refine' yT 7 hT inv hS (fun inv=>?_)
   refine' yT 8 hT inv hS (fun inv=>?_)
   refine' yT 9 hT inv hS (fun inv=>?_) (hy:=by intro W hSW;have hc:=HX.out W hSW;go_simp;try with_reducible rfl)
   refine' yT 10 hT inv hS (fun inv=>?_)
   refine xT 6 inv (fun K hK=>?_)
   go_simp
   with_reducible refine (HN1.out _).mono ?_
   rintro e u1 ⟨rfl,hb1⟩
   have kb1:=zaa hS hb1
   clear hS hb1
   refine hK.out _ _ (by exact kb1) (fun inv hS=>?_)
   clear hK K
   refine zaD (by kernel_rfl) ?_
   simp only [List.drop_succ_cons,List.drop_zero]
   clear hS
   (try simp only [Act.put])
   have HI2:=yh (HI.out.call kb1)
   clear kb1 HI
   go_wp2_with fail
   with_reducible refine (HN2.out _).mono ?_
   rintro e w2 ⟨rfl,hb2⟩
   have HI3:=yh (HI2.out.call hb2)
   clear hb2 HI2
   have hr3:=HI3.out.rows.head
   go_wp2_with (refine yj NB hr3 iB sB oB ?_)
   have HI4:Hid (Lp w (w2.setRow (g+1+1) NB) (g+1+1) (wdW 4 (n/Q64^j % LL)) 76 [(g+1,z4,76),(g,N8,88)]):=yh ⟨by rw [HNB.out];exact HI3.out.rows.put HI3.out.far NB,HI3.out.new,HI3.out.far,zac HI3.out.below HI3.out.new⟩
   clear hr3 HI3
   (try refine NoPanic.normal ?_)
   go_wp2_with fail
   go_roundw
   case rel=>exact ⟨j,by have:=HK.out;omega,by go_num,HI4⟩
   case measure=>simp [intOf] <;> omega
  ·obtain rfl:k=0:=by omega
   rw [HE0.out] at HI
   have h1:=HI.out.rows.head
   have h0:=HI.out.rows.tail.head
   have HB:Hid (Below w.heap.size w (wr.setRow (g+1) OUT)):=yh (zac HI.out.below (by rw [HG.out];omega))
   clear HI
   go_wp2_with (first
    | (refine yi h1 Tryz.underlying76 iO ?_)
    | (refine yj OUT h0 iO sO oO ?_))
   (try simp only [Exit.inBlock,Exit.then])
   refine bodyPost_ret (results_cell_row rfl _ _ (g+1) _ OUT _ _ rfl (setRow_heap _ _ _ _ _ _ h0) Tryz.underlying76 rfl iO) rfl ?_
   exact ⟨rfl,HB.out⟩
theorem word_sum {h l p z1 z2 d1 d2 u v c:Nat} (m0:h*c+l=p) (e1:z1+d1*c=l+u+0) (e2:z2+d2*c=z1+v+0):z2+(h+d1+d2)*c=p+u+v:=by
 rw [Nat.add_mul,Nat.add_mul];omega
theorem word_lim {z d p u v:Nat} (hr:z+d*18446744073709551616=p+u+v) (hm:p≤340282366920938463426481119284349108225) (hu:u<18446744073709551616) (hv:v<18446744073709551616):d<18446744073709551616:=by omega
theorem scword_ex (x y u v:Nat) (hx:x<18446744073709551616) (hy:y<18446744073709551616) (hu:u<18446744073709551616) (hv:v<18446744073709551616):∃ z d:Nat,
  Hid (∀ w:World,Calls Tryz.prog 109 #[.int .u64 (x:Int),.int .u64 (y:Int),.int .u64 (u:Int),.int .u64 (v:Int)] w fun e w'=>e=.returned (.tuple #[.int .u64 (z:Int),.int .u64 (d:Int)])∧w'=w) ∧
  z+d*18446744073709551616=x*y+u+v∧z<18446744073709551616∧d<18446744073709551616:=by
 have hm:x*y≤340282366920938463426481119284349108225:=Nat.le_trans (Nat.mul_le_mul (show x≤18446744073709551615 by omega) (show y≤18446744073709551615 by omega)) (by decide)
 obtain ⟨h,l,M0,m0,p0,q0⟩:=mul_ex x y hx hy
 obtain ⟨z1,d1,s1,e1,l1⟩:=add_ex l u 0 (by omega)
 obtain ⟨z2,d2,s2,e2,l2⟩:=add_ex z1 v 0 (by omega)
 generalize x*y=p at *
 have hr:=word_sum m0 e1 e2
 have hd:=word_lim hr hm hu hv
 refine ⟨z2,h+d1+d2,yh fun w=>?_,hr,l2,hd⟩
 have f1:IntKind.u64.wrap ((h:Int)+(d1:Int))=((h+d1:Nat):Int):=by rw [IntKind.wrap_u64];omega
 have f2:IntKind.u64.wrap (((h+d1:Nat):Int)+(d2:Int))=((h+d1+d2:Nat):Int):=by rw [IntKind.wrap_u64];omega
 simp only [Int.ofNat_zero] at s1 s2
 generalize h+d1+d2=hd2 at *
 generalize h+d1=hd1 at *
 clear hr hd hm m0 e1 e2 l1 l2 hx hy hu hv p0 q0
 go_enter Tryz.func109,Tryz.ntmps109
 go_wp2_with fail
 with_reducible refine (M0.out _).mono ?_
 rintro e w' ⟨rfl,rfl⟩
 go_wp2
 go_ret2
 exact ⟨rfl,rfl⟩
theorem wd4_at (n i:Nat) (hi:i<4) (u:World):(Instr.index 76 (.agg (wdW 4 n)) (.int .i64 (i:Int))).run Tryz.prog u=.ok (.int .u64 (wq n i:Int)) u:=by
 have hu:Tryz.prog.underlying 76=some (.array 4 61):=by kernel_rfl
 have h1:(0:Int)≤(i:Int)∧(i:Int)<((4:Nat):Int):=⟨by omega,by omega⟩
 have hs:(sizeOf 61).run Tryz.prog u=.ok 1 u:=by kernel_rfl
 have hv:=wdW_get 4 n i hi
 simp [Instr.index,run_underlying hu,asIntOf,h1,hi,go_sem,hs,hv]
theorem zero_words (l:List Nat) (hl:Ws 8 l) (i:Nat) (h:vQ l<Q64^i) (j:Nat) (hj:i≤j) (hj8:j<8):l.getD j 0=0:=by
 rw [← wsL_vQ hl,wsL_get _ _ _ hj8]
 unfold wq
 rw [Nat.div_eq_of_lt (Nat.lt_of_lt_of_le h (Nat.pow_le_pow_right (by decide) hj)),Nat.zero_mod]
theorem row_eight (c:Nat) (hc:c<Q4):((wdW 4 c).toList++(wdW 8 0).toList.drop (wdW 4 c).size).toArray=wsA (wsL 4 c++[0,0,0,0]):=by
 rw [zay]
 unfold wdW wsA
 simp [wsL]
theorem eight_ws (c:Nat) (hc:c<Q4):Ws 8 (wsL 4 c++[0,0,0,0])∧vQ (wsL 4 c++[0,0,0,0])=c:=by
 have e:wsL 4 c++[0,0,0,0]=wsL 8 c:=by
  refine ws_ext (k:=8) (by simp [wsL_len]) (wsL_len _ _) fun i hi=>?_
  rw [wsL_get _ _ _ hi]
  by_cases h:i<4
  ·rw [List.getD_eq_getElem?_getD,List.getElem?_append_left (by rw [wsL_len];exact h),← List.getD_eq_getElem?_getD,wsL_get _ _ _ h]
  ·rw [List.getD_eq_getElem?_getD,List.getElem?_append_right (by rw [wsL_len];omega),wsL_len,← List.getD_eq_getElem?_getD]
   have h4:i=4∨i=5∨i=6∨i=7:=by omega
   have:wq c i=0:=by
    unfold wq
    rw [Nat.div_eq_of_lt (Nat.lt_of_lt_of_le (by rw [← q4_is] at hc;exact hc) (Nat.pow_le_pow_right (by decide) (show 4≤i by omega))),Nat.zero_mod]
   rw [this]
   rcases h4 with rfl | rfl | rfl | rfl <;> rfl
 rw [e]
 exact ⟨wsL_ws 8 c,vQ_eq (Nat.lt_trans (by rw [← q4_is] at hc;exact hc) (by decide))⟩
theorem scmuladd_any (a b c:Nat) (ha:a<Q4) (hb:b<Q4) (hc:c<Q4) (w:World) :
  Calls Tryz.prog 53 #[.agg (wdW 4 a),.agg (wdW 4 b),.agg (wdW 4 c)] w (RetV w (.agg (wdW 8 (a*b+c)))):=by
 have hz8:=wd8_zero
 obtain ⟨hws0,hv0⟩:=eight_ws c hc
 have HRE:=yh (row_eight c hc)
 have HWS0:=yh hws0
 have HV0:Hid (vQ (wsL 4 c++[0,0,0,0])=a % Q64^0*b+c):=yh (by rw [hv0,Nat.pow_zero,Nat.mod_one,Nat.zero_mul,Nat.zero_add])
 have HLIM:Hid (∀ i,i≤4→a % Q64^i*b+c<Q64^(i+4)):=yh fun i hi=>by
  rw [Nat.pow_add,q4_is]
  exact mul_lim (Nat.mod_lt _ (Nat.pow_pos (by decide))) hb hc
 have HEND:Hid (a % Q64^4*b+c=a*b+c):=yh (by rw [q4_is,Nat.mod_eq_of_lt ha])
 have HB4:Hid (b % Q64^4=b):=yh (by rw [q4_is,Nat.mod_eq_of_lt hb])
 have HIA:Hid (∀ k:Nat,k<4→∀ u,(Instr.index 76 (.agg (wdW 4 a)) (.int .i64 (k:Int))).run Tryz.prog u=.ok (.int .u64 (wq a k:Int)) u):=yh fun k hk u=>wd4_at a k hk u
 have HIB:Hid (∀ k:Nat,k<4→∀ u,(Instr.index 76 (.agg (wdW 4 b)) (.int .i64 (k:Int))).run Tryz.prog u=.ok (.int .u64 (wq b k:Int)) u):=yh fun k hk u=>wd4_at b k hk u
 have iA:=zaW a
 have iB:=zaW b
 have iO:=wd8_info (a*b+c)
 have oO:=wdW_one 8 (a*b+c)
 have sO:(wdW 8 0).size=(wdW 8 (a*b+c)).size:=by rw [zay,zay]
 have oC:=wdW_one 4 c
 have sC:(wdW 4 c).size=4:=zay 4 c
 have s8:(wdW 8 0).size=8:=zay 8 0
 have HOUT:Hid (∀ l,Ws 8 l→vQ l=a*b+c→wsA l=wdW 8 (a*b+c)):=yh fun l h1 h2=>ws_row h1 h2
 generalize wdW 8 (a*b+c)=OUT at *
 generalize wdW 8 0=z8 at *
 generalize wdW 4 a=WA at *
 generalize wdW 4 b=WB at *
 generalize wdW 4 c=WC at *
 clear hws0 hv0 ha hb hc
 have hr0:RowsW (((((w.alloc (.cells WA 76)).alloc (.cells WB 76)).alloc (.cells WC 76)).alloc (.cells z8 88)).alloc (.cells z8 88)) [(w.heap.size+1+1+1+1,z8,88),(w.heap.size+1+1+1,z8,88),(w.heap.size+1+1,WC,76),(w.heap.size+1,WB,76),(w.heap.size,WA,76)]:=by
  have h:=(((((RowsW.nil w).box WA 76).box WB 76).box WC 76).box z8 88).box z8 88
  simp only [World.size_alloc] at h
  exact h
 have hb0:Below w.heap.size w (((((w.alloc (.cells WA 76)).alloc (.cells WB 76)).alloc (.cells WC 76)).alloc (.cells z8 88)).alloc (.cells z8 88)):=zab (zab (zab (zab (zab (Below.refl _ _) _) _) _) _) _
 have HR0:=yh hr0
 have HB0:=yh hb0
 clear hr0 hb0
 go_enter Tryz.func53,Tryz.ntmps53
 go_wp2_with fail
 obtain ⟨W0,hW0⟩:∃ W,((((w.alloc (.cells WA 76)).alloc (.cells WB 76)).alloc (.cells WC 76)).alloc (.cells z8 88)).alloc (.cells z8 88)=W:=⟨_,rfl⟩
 obtain ⟨g,hg⟩:∃ g,w.heap.size=g:=⟨_,rfl⟩
 rw [hW0] at HB0
 rw [hW0,hg] at HR0
 have HG:=yh hg
 rw [hW0,hg]
 clear hW0 hg
 refine wp_region_still_tail 2 (by kernel_rfl) (by kernel_rfl) ?_
 simp only [List.take_succ_cons,List.take_zero,List.drop_succ_cons,List.drop_zero]
 iterate 2 still_step
 refine wpStill_nil ?_
 refine wpList_copy_row rfl (.tmp 13) (.tmp 14) 128 128 rfl 61 Tryz.underlying128 (by kernel_rfl) (g+1+1+1+1) 8 8 (g+1+1) 4 4 rfl rfl z8 WC 88 76 HR0.out.head HR0.out.tail.tail.head sC.symm (by rw [sC];omega) (by rw [sC,s8];omega) oC ?_
 rw [HRE.out]
 obtain ⟨W1,hW1⟩:∃ W,({ W0 with drawn:=W0.drawn+1 }:World).setRow (g+1+1+1+1) (wsA (wsL 4 c++[0,0,0,0]))=W:=⟨_,rfl⟩
 have HI:Hid (Lp w W1 (g+1+1+1+1) (wsA (wsL 4 c++[0,0,0,0])) 88 [(g+1+1+1,z8,88),(g+1,WB,76),(g,WA,76)]):=yh (by
  rw [← hW1]
  refine ⟨⟨setRow_heap _ _ _ _ _ _ HR0.out.head,?_,?_,?_,trivial⟩,by rw [HG.out];omega,by simp;omega,zac (zaC HB0.out 1) (by rw [HG.out];omega)⟩
  ·rw [setRow_other _ _ _ _ (by omega)];exact HR0.out.tail.head
  ·rw [setRow_other _ _ _ _ (by omega)];exact HR0.out.tail.tail.tail.head
  ·rw [setRow_other _ _ _ _ (by omega)];exact HR0.out.tail.tail.tail.tail.head)
 rw [hW1]
 have hla:=HI.out.rows.tail.tail.tail.head
 clear hW1 HR0 HB0 HRE sC s8 oC
 generalize wsL 4 c++[0,0,0,0]=L0 at *
 go_wp2_with (refine yi hla Tryz.underlying76 iA ?_)
 clear hla
 go_loopw [17] (fun i_ wr=>∃ (i:Nat) (l:List Nat),i≤4∧i_=.int .i64 (i:Int)∧Hid (Ws 8 l)∧Hid (vQ l=a % Q64^i*b+c)∧Hid (Lp w wr (g+1+1+1+1) (wsA l) 88 [(g+1+1+1,z8,88),(g+1,WB,76),(g,WA,76)])) (fun i_ _=>4-(intOf i_).toNat)
 case atStart=>exact ⟨0,L0,by omega,rfl,HWS0,HV0,HI⟩
 case round =>
  clear HI HWS0 HV0
  obtain ⟨i,l,hi,rfl,HWS,HV,HI⟩:=hrel
  by_cases hlt:i<4
  ·have hxi:=HIA.out i hlt
   have hx:=wq_lt a i
   have HXD:=yh (mod_q a i)
   have HZW:=yh (zero_words l HWS.out (i+4) (by rw [HV.out];exact HLIM.out i hi))
   obtain ⟨x,hxe⟩:∃ x,wq a i=x:=⟨_,rfl⟩
   rw [hxe] at hxi hx HXD
   have HX:=yh hx
   have hlb:=HI.out.rows.tail.tail.head
   have e7:decide ((i:Int)<4)=true:=decide_eq_true (by omega)
   have b5:0≤(i:Int):=by omega
   have b6:(i:Int)<4:=by omega
   have HLT:=yh hlt
   have HZ4:Hid (l.getD (i+4) 0=0):=yh (HZW.out (i+4) (Nat.le_refl _) (by omega))
   have HN0:Hid (vQ l+0*(Q64^i*Q64^0)=vQ l+x*(b % Q64^0)*Q64^i):=yh (by rw [Nat.pow_zero,Nat.mod_one];simp)
   obtain ⟨N0,hN0⟩:∃ n,vQ l=n:=⟨_,rfl⟩
   have HNV:Hid (N0=a % Q64^i*b+c):=yh (by rw [← hN0];exact HV.out)
   have HN1:Hid (vQ l+0*(Q64^i*Q64^0)=N0+x*(b % Q64^0)*Q64^i):=yh (by rw [← hN0];exact HN0.out)
   clear hx hxe hN0 HN0 HV hlt HZW
   go_wp2_with (refine yi hlb Tryz.underlying76 iB ?_)
   clear hlb
   go_loopw [10,22] (fun c_ j_ wr=>∃ (j:Nat) (l:List Nat) (cc:Nat),j≤4∧j_=.int .i64 (j:Int)∧c_=.int .u64 (cc:Int)∧Hid (Ws 8 l)∧Hid (l.getD (i+4) 0=0)∧Hid (cc<18446744073709551616)∧Hid (vQ l+cc*(Q64^i*Q64^j)=N0+x*(b % Q64^j)*Q64^i)∧Hid (Lp w wr (g+1+1+1+1) (wsA l) 88 [(g+1+1+1,z8,88),(g+1,WB,76),(g,WA,76)])) (fun _ j_ _=>4-(intOf j_).toNat)
   case atStart=>exact ⟨0,l,0,by omega,rfl,rfl,HWS,HZ4,yh (by omega),HN1,HI⟩
   case round =>
    clear HI HWS HN1 HZ4
    obtain ⟨j,l2,cc,hj,rfl,rfl,HWS,HZ4,HC,HV,HI⟩:=hrel
    by_cases hlt2:j<4
    ·have hyj:=HIB.out j hlt2
     have hy:=wq_lt b j
     have hij:=HLT.out
     have HYD:=yh (mod_q b j)
     obtain ⟨y,hye⟩:∃ y,wq b j=y:=⟨_,rfl⟩
     rw [hye] at hyj hy HYD
     have hu:=HWS.out.lt (i+j) (by omega)
     have cn:wr.cell? ⟨g+1+1+1+1,i+j,none⟩=some (.int .u64 ((l2.getD (i+j) 0:Nat):Int)):=by rw [cell_of_row _ _ _ _ _ _ HI.out.rows.head,wsA_get _ _ (by rw [HWS.out.len];omega)]
     have fz:=HI.out.fz (i+j)
     obtain ⟨z,d,HM,em,lz,ld⟩:=scword_ex x y (l2.getD (i+j) 0) cc HX.out (by unfold Q64 at hy;exact hy) (by unfold Q64 at hu;exact hu) HC.out
     have HV2:Hid (vQ (l2.set (i+j) z)+d*(Q64^i*Q64^(j+1))=N0+x*(b % Q64^(j+1))*Q64^i):=yh (by
      have hs:=vQ_set l2 (i+j) z (by rw [HWS.out.len];omega)
      rw [Nat.pow_add] at hs
      rw [HYD.out,Nat.pow_succ,← Nat.mul_assoc (Q64^i)]
      exact mul_wd em hs HV.out)
     have HWS2:=yh (HWS.out.set (i+j) z (by unfold Q64;exact lz))
     have HZ2:Hid ((l2.set (i+j) z).getD (i+4) 0=0):=yh (by
      rw [List.getD_eq_getElem?_getD,List.getElem?_set,if_neg (by omega),← List.getD_eq_getElem?_getD];exact HZ4.out)
     have HC2:=yh ld
     have HI2:Hid (Lp w (wr.setCell ⟨g+1+1+1+1,i+j,none⟩ (.int .u64 (z:Int))) (g+1+1+1+1) (wsA (l2.set (i+j) z)) 88 [(g+1+1+1,z8,88),(g+1,WB,76),(g,WA,76)]):=yh (by
      rw [← wsA_set]
      exact HI.out.set (i+j) _)
     generalize l2.getD (i+j) 0=u at *
     have e1:(i:Int)+(j:Int)=((i+j:Nat):Int):=by omega
     have e2:IntKind.i64.wrap ((i+j:Nat):Int)=((i+j:Nat):Int):=by rw [IntKind.wrap_i64];omega
     have e8:decide ((j:Int)<4)=true:=decide_eq_true (by omega)
     have b7:0≤(j:Int):=by omega
     have b8:(j:Int)<4:=by omega
     have b9:0≤((i+j:Nat):Int):=by omega
     have b10:((i+j:Nat):Int)<8:=by omega
     generalize hij2:i+j=ij at *
     have HJ:=yh hj
     have HLT2:=yh hlt2
     clear HI HWS HZ4 HC HV hy hye hu em lz ld hij hij2 hj hlt2
     go_wp2_with fail
     with_reducible refine (HM.out _).mono ?_
     rintro e w' ⟨rfl,rfl⟩
     go_wp2_with fail
     go_roundw
     case rel=>exact ⟨j+1,_,d,by have:=HLT2.out;omega,by go_num,rfl,HWS2,HZ2,HC2,HV2,HI2⟩
     case measure=>have:=HLT2.out;simp [intOf];omega
    ·have e8:decide ((j:Int)<4)=false:=decide_eq_false (by omega)
     obtain rfl:j=4:=by omega
     have hij:=HLT.out
     have e1:(i:Int)+4=((i+4:Nat):Int):=by omega
     have e2:IntKind.i64.wrap ((i+4:Nat):Int)=((i+4:Nat):Int):=by rw [IntKind.wrap_i64];omega
     have b9:0≤((i+4:Nat):Int):=by omega
     have b10:((i+4:Nat):Int)<8:=by omega
     have fz:=HI.out.fz (i+4)
     have cn:wr.cell? ⟨g+1+1+1+1,i+4,none⟩=some (.int .u64 ((l2.getD (i+4) 0:Nat):Int)):=by rw [cell_of_row _ _ _ _ _ _ HI.out.rows.head,wsA_get _ _ (by rw [HWS.out.len];omega)]
     have HV2:Hid (vQ (l2.set (i+4) cc)=a % Q64^(i+1)*b+c):=yh (by
      have hs:=vQ_set l2 (i+4) cc (by rw [HWS.out.len];omega)
      rw [HZ4.out,Nat.zero_mul,Nat.add_zero,Nat.pow_add] at hs
      rw [hs,HV.out,HB4.out,HNV.out,HXD.out,Nat.add_mul]
      have:x*b*Q64^i=x*Q64^i*b:=by rw [Nat.mul_assoc,Nat.mul_comm b,← Nat.mul_assoc]
      omega)
     have HWS2:=yh (HWS.out.set (i+4) cc (by unfold Q64;exact HC.out))
     have HI2:Hid (Lp w (wr.setCell ⟨g+1+1+1+1,i+4,none⟩ (.int .u64 (cc:Int))) (g+1+1+1+1) (wsA (l2.set (i+4) cc)) 88 [(g+1+1+1,z8,88),(g+1,WB,76),(g,WA,76)]):=yh (by
      rw [← wsA_set]
      exact HI.out.set (i+4) _)
     generalize l2.getD (i+4) 0=u at *
     generalize hi4:i+4=i4 at *
     clear HI HWS HZ4 HC HV hij hi4 hlt2 hj
     go_wp2_with fail
     go_roundw
     case rel=>exact ⟨i+1,_,by have:=HLT.out;omega,by go_num,HWS2,HV2,HI2⟩
     case measure=>have:=HLT.out;simp [intOf];omega
  ·have e7:decide ((i:Int)<4)=false:=decide_eq_false (by omega)
   obtain rfl:i=4:=by omega
   rw [HOUT.out l HWS.out (by rw [HV.out,HEND.out])] at HI
   have h1:=HI.out.rows.head
   have h0:=HI.out.rows.tail.head
   have HB:Hid (Below w.heap.size w (wr.setRow (g+1+1+1) OUT)):=yh (zac HI.out.below (by rw [HG.out];omega))
   clear HI HV HWS hlt
   go_wp2_with (first
    | (refine yi h1 Tryz.underlying88 iO ?_)
    | (refine yj OUT h0 iO sO oO ?_))
   (try simp only [Exit.inBlock,Exit.then])
   refine bodyPost_ret (results_cell_row rfl _ _ (g+1+1+1) _ OUT _ _ rfl (setRow_heap _ _ _ _ _ _ h0) Tryz.underlying88 rfl iO) rfl ?_
   exact ⟨rfl,HB.out⟩
theorem arr64_info {l:List UInt8} (h:l.length=64):(Tryz.prog.info? 24).map (·.size)=some (arrB l).size:=by rw [zam,h];kernel_rfl
theorem scCan_any (l:List UInt8) (hl:l.length=32) (w:World):Calls Tryz.prog 36 #[.agg (arrB l)] w (RetV w (.bool (decide (leN l<LL)))):=by
 have hz4:=wd4_zero
 have hV:leN l<Q4:=by have:=leN_lt l;rw [hl] at this;exact this
 have HWD:=yh fun W:World=>scwords_any l hl W
 have HORD:=yh fun W:World=>scorder_any W
 have HMIN:=yh fun W:World=>scminus_any (leN l) LL hV (by decide) W
 have iD:=zaW ((leN l+(Q4-LL)) % Q4)
 have sD:(wdW 4 0).size=(wdW 4 ((leN l+(Q4-LL)) % Q4)).size:=by rw [zay,zay]
 have oD:=wdW_one 4 ((leN l+(Q4-LL)) % Q4)
 have iL:=zaf hl
 generalize decide (leN l<LL)=bb at *
 generalize wdW 4 ((leN l+(Q4-LL)) % Q4)=D at *
 generalize wdW 4 (leN l)=NV at *
 generalize wdW 4 LL=NL at *
 generalize wdW 4 0=z4 at *
 generalize arrB l=LA at *
 clear hV hl
 have hr0:RowsW (w.alloc (.cells LA 22)) [(w.heap.size,LA,22)]:=by
  have h:=(RowsW.nil w).box LA 22
  (try simp only [World.size_alloc] at h)
  exact h
 have hb0:Below w.heap.size w (w.alloc (.cells LA 22)):=zab (Below.refl _ _) _
 have HR0:=yh hr0
 have HB0:=yh hb0
 clear hr0 hb0
 have h0:=HR0.out.head
 go_enter Tryz.func36,Tryz.ntmps36
 go_wp2_with (refine yi h0 Tryz.underlying22 iL ?_)
 with_reducible refine (HWD.out _).mono ?_
 rintro e v1 ⟨rfl,hb1⟩
 have HB1:=yh (zaa HB0.out hb1)
 clear hb1 HR0 HB0 h0
 go_wp2_with fail
 with_reducible refine (HORD.out _).mono ?_
 rintro e v2 ⟨rfl,hb2⟩
 have HB2:=yh (zaa HB1.out hb2)
 clear hb2 HB1
 go_wp2_with fail
 with_reducible refine (HMIN.out _).mono ?_
 rintro e v3 ⟨rfl,hb3⟩
 have HB3:=yh (zaa HB2.out hb3)
 clear hb3 HB2
 have h3:(v3.alloc (.cells z4 76)).heap[v3.heap.size]?=some (.cells z4 76 (0,0)):=heap_alloc_new _ _
 have HE:Hid (Below w.heap.size w ((v3.alloc (.cells z4 76)).setRow v3.heap.size D)):=yh (zau HB3.out z4 D 76)
 go_wp2_with (refine yj D h3 iD sD oD ?_)
 go_ret
 exact ⟨rfl,HE.out⟩
theorem arr64_at {l:List UInt8} (h:l.length=64) (i:Nat) (hi:i<64) (u:World):(Instr.index 24 (.agg (arrB l)) (.int .i64 (i:Int))).run Tryz.prog u=.ok (.int .u8 ((l.getD i 0).toNat:Int)) u:=by
 have hu:Tryz.prog.underlying 24=some (.array 64 5):=by kernel_rfl
 have h1:(0:Int)≤(i:Int)∧(i:Int)<((64:Nat):Int):=⟨by omega,by omega⟩
 have hs:(sizeOf 5).run Tryz.prog u=.ok 1 u:=by kernel_rfl
 have hv:=zaJ l i (by omega)
 simp [Instr.index,run_underlying hu,asIntOf,h1,hi,go_sem,hs,hv]
theorem scReduce_any (l:List UInt8) (hl:l.length=64) (w:World):Calls Tryz.prog 52 #[.agg (arrB l)] w (RetV w (.agg (bytT (leN l % LL)))):=by
 have hz8:=wd8_zero
 have hzb:=b32_zero
 have HX:Hid (∀ k:Nat,k<64→∀ u,(Instr.index 24 (.agg (arrB l)) (.int .i64 (k:Int))).run Tryz.prog u=.ok (.int .u8 ((l.getD k 0).toNat:Int)) u):=yh fun k hk u=>arr64_at hl k hk u
 have i64:=arr64_info hl
 have HL:=yh hl
 have hV:leN l<Q64^8:=by have:=leN_lt l;rw [hl] at this;exact this
 have HRED:=yh fun W:World=>screduced_any (leN l) hV W
 have HBY:=yh fun W:World=>scbytes_any (leN l % LL) W
 have HZ:Hid (wdW 8 0=wdW 8 (leN (l.take 0))):=yh (by rw [List.take_zero];rfl)
 have iO:=wd8_info (leN l)
 have nB:=zar (l:=leB 32 (leN l % LL)) (zav _ _)
 have oB:=zap (leB 32 (leN l % LL))
 have iB:=zaf (zav 32 (leN l % LL))
 unfold bytT at *
 obtain ⟨OUT,hOUT⟩:∃ o,arrB (leB 32 (leN l % LL))=o:=⟨_,rfl⟩
 rw [hOUT] at nB oB iB HBY ⊢
 generalize zag=z32 at *
 generalize wdW 4 (leN l % LL)=NR at *
 obtain ⟨BB,hBB⟩:∃ X,arrB l=X:=⟨_,rfl⟩
 rw [hBB] at HX i64 ⊢
 obtain ⟨z8,hz⟩:∃ z,wdW 8 0=z:=⟨_,rfl⟩
 rw [hz] at hz8 HZ
 have hr0:RowsW (((w.alloc (.cells BB 24)).alloc (.cells z32 22)).alloc (.cells z8 88)) [(w.heap.size+1+1,z8,88),(w.heap.size+1,z32,22),(w.heap.size,BB,24)]:=by
  have h:=(((RowsW.nil w).box BB 24).box z32 22).box z8 88
  (try simp only [World.size_alloc] at h)
  exact h
 have hb0:Below w.heap.size w (((w.alloc (.cells BB 24)).alloc (.cells z32 22)).alloc (.cells z8 88)):=zab (zab (zab (Below.refl _ _) _) _) _
 have HR0:=yh hr0
 have HB0:=yh hb0
 clear hr0 hb0
 have hrb:=HR0.out.tail.tail.head
 clear hBB hz hl hV hOUT
 go_enter Tryz.func52,Tryz.ntmps52
 go_wp2_with (refine yi hrb Tryz.underlying24 i64 ?_)
 clear hrb
 obtain ⟨W1,hW1⟩:∃ W,(((w.alloc (.cells BB 24)).alloc (.cells z32 22)).alloc (.cells z8 88))=W:=⟨_,rfl⟩
 rw [hW1] at HR0 HB0
 rw [hW1]
 obtain ⟨g,hg⟩:∃ g,w.heap.size=g:=⟨_,rfl⟩
 rw [hg] at HR0
 rw [hg]
 have HG:=yh hg
 clear hg
 clear hW1
 have HI:Hid (Lp w W1 (g+1+1) (wdW 8 (leN (l.take 0))) 88 [(g+1,z32,22)]):=yh ⟨by rw [← HZ.out];exact ⟨HR0.out.head,HR0.out.tail.head,trivial⟩,by rw [HG.out];omega,by simp,HB0.out⟩
 clear HR0 HB0 HZ
 go_loopw [7] (fun i wr=>∃ k:Nat,k≤64∧i=.int .i64 (k:Int)∧Hid (Lp w wr (g+1+1) (wdW 8 (leN (l.take k))) 88 [(g+1,z32,22)])) (fun i _=>64-(intOf i).toNat)
 case atStart=>exact ⟨0,by omega,rfl,HI⟩
 case round =>
  clear HI
  obtain ⟨k,hk,rfl,HI⟩:=hrel
  by_cases hlt:k<64
  ·have hx:=HX.out k hlt
   obtain ⟨b,hb⟩:∃ b,(l.getD k 0).toNat=b:=⟨_,rfl⟩
   have hbl:b<256:=by rw [← hb];exact (l.getD k 0).toNat_lt
   obtain ⟨n,hn⟩:∃ n,leN (l.take k)=n:=⟨_,rfl⟩
   have hnl:n<256^k:=by rw [← hn];exact leN_take_lt l k (by rw [HL.out];omega)
   have hn1:leN (l.take (k+1))=n+b*256^k:=by rw [leN_take l k (by rw [HL.out];omega),hn,hb]
   obtain ⟨s1,s2,s3,s4⟩:=wd_step n b k hnl hbl
   have hd4:k/8<8:=by omega
   rw [hn] at HI
   rw [hb] at hx
   obtain ⟨d,hd⟩:∃ d,k/8=d:=⟨_,rfl⟩
   obtain ⟨r,hr⟩:∃ r,k % 8=r:=⟨_,rfl⟩
   obtain ⟨e,he⟩:∃ e,r*8=e:=⟨_,rfl⟩
   rw [hd,hr,he] at s1 s3
   rw [hr,he] at s2
   rw [hd] at s4
   rw [hd] at hd4
   have hel:e<57:=by omega
   have hs4:=wdW_set 8 n (n+b*256^k) d hd4 (fun j _ hne=>s4 j hne)
   rw [s3] at hs4
   have cz:wr.cell? ⟨g+1+1,d,none⟩=some (.int .u64 (wq n d:Int)):=by rw [cell_of_row _ _ _ _ _ _ HI.out.rows.head,wdW_get _ _ _ hd4]
   have fx:=HI.out.fz d
   have hw:=wq_lt n d
   have f7:=or_low (wq n d) b e s1 hw s2
   have HI2:Hid (Lp w (wr.drew.setCell ⟨g+1+1,d,none⟩ (.int .u64 ((wq n d+2^e*b:Nat):Int))) (g+1+1) (wdW 8 (leN (l.take (k+1)))) 88 [(g+1,z32,22)]):=yh (by
    rw [hn1,← hs4]
    exact (HI.out.drew).set d _)
   have f6:IntKind.u64.wrap ((b:Int)*2^e)=((2^e*b:Nat):Int):=by
    rw [IntKind.wrap_u64,show (b:Int)*2^e=((2^e*b:Nat):Int) by rw [Int.natCast_mul,Int.mul_comm];simp]
    unfold Q64 at s2
    omega
   generalize 2^e*b=m at *
   obtain ⟨o,ho⟩:∃ o,wq n d+m=o:=⟨_,rfl⟩
   rw [ho] at f7 HI2
   generalize wq n d=q at *
   have f1:(k:Int).tdiv 8=(d:Int):=by rw [Int.tdiv_eq_ediv_of_nonneg (by omega)];omega
   have f1':(k:Int)/8=(d:Int):=by omega
   have f2:IntKind.i64.wrap (d:Int)=(d:Int):=by rw [IntKind.wrap_i64];omega
   have f3:(k:Int).tmod 8=(r:Int):=by rw [Int.tmod_eq_emod_of_nonneg (by omega)];omega
   have f3':(k:Int) % 8=(r:Int):=by omega
   have f4:(r:Int)*8=(e:Int):=by omega
   have f5:IntKind.i64.wrap (e:Int)=(e:Int):=by rw [IntKind.wrap_i64];omega
   have f8:IntKind.u64.wrap (b:Int)=(b:Int):=by rw [IntKind.wrap_u64];omega
   have b1:0≤(d:Int):=by omega
   have b2:(d:Int)<8:=by omega
   have b3:0≤(e:Int):=by omega
   have b5:0≤(k:Int):=by omega
   have b6:(k:Int)<64:=by omega
   clear HI hb hbl hn hnl hn1 s1 s2 s3 s4 hd hr he hs4 hw ho
   go_wp2_with fail
   refine wp_region_still_tail 11 (by kernel_rfl) (by kernel_rfl) ?_
   simp only [List.take_succ_cons,List.take_zero,List.drop_succ_cons,List.drop_zero]
   iterate 11 still_step
   refine wpStill_nil ?_
   go_wp2_with fail
   go_roundw
   case rel=>exact ⟨k+1,by omega,by go_num,HI2⟩
   case measure=>simp [intOf];omega
  ·obtain rfl:k=64:=by omega
   have hV:l.take 64=l:=List.take_of_length_le (by rw [HL.out];omega)
   rw [hV] at HI
   generalize wdW 8 (leN l)=N8 at *
   have h1:=HI.out.rows.head
   clear hV hlt hk
   go_wp2_with (refine yi h1 Tryz.underlying88 iO ?_)
   with_reducible refine (HRED.out _).mono ?_
   rintro e v1 ⟨rfl,hb1⟩
   have HI1:=yh (HI.out.call hb1)
   clear hb1 HI h1
   go_wp2_with fail
   with_reducible refine (HBY.out _).mono ?_
   rintro e v2 ⟨rfl,hb2⟩
   have HI2:=yh (HI1.out.call hb2)
   clear hb2 HI1
   have h0:=HI2.out.rows.tail.head
   have HE:Hid (Below w.heap.size w (v2.setRow (g+1) OUT)):=yh (zac HI2.out.below (by rw [HG.out];omega))
   go_wp2_with (refine yj OUT h0 iB nB oB ?_)
   (try simp only [Exit.inBlock,Exit.then])
   refine bodyPost_ret (results_cell_row rfl _ _ (g+1) _ OUT _ _ rfl (setRow_heap _ _ _ _ _ _ h0) Tryz.underlying22 rfl iB) rfl ?_
   exact ⟨rfl,HE.out⟩
theorem scMulAdd_any (l m n:List UInt8) (hl:l.length=32) (hm:m.length=32) (hn:n.length=32) (w:World):Calls Tryz.prog 25 #[.agg (arrB l),.agg (arrB m),.agg (arrB n)] w (RetV w (.agg (bytT ((leN l*leN m+leN n) % LL)))):=by
 have hzb:=b32_zero
 have h1:leN l<Q4:=by have:=leN_lt l;rw [hl] at this;exact this
 have h2:leN m<Q4:=by have:=leN_lt m;rw [hm] at this;exact this
 have h3:leN n<Q4:=by have:=leN_lt n;rw [hn] at this;exact this
 have HW1:=yh fun W:World=>scwords_any l hl W
 have HW2:=yh fun W:World=>scwords_any m hm W
 have HW3:=yh fun W:World=>scwords_any n hn W
 have HM:=yh fun W:World=>scmuladd_any _ _ _ h1 h2 h3 W
 have h8:leN l*leN m+leN n<Q64^8:=by
  have:=mul_lim h1 h2 h3
  exact this
 have HRED:=yh fun W:World=>screduced_any (leN l*leN m+leN n) h8 W
 have HBY:=yh fun W:World=>scbytes_any ((leN l*leN m+leN n) % LL) W
 have iL:=zaf hl
 have iM:=zaf hm
 have iN:=zaf hn
 have nB:=zar (l:=leB 32 ((leN l*leN m+leN n) % LL)) (zav _ _)
 have oB:=zap (leB 32 ((leN l*leN m+leN n) % LL))
 have iB:=zaf (zav 32 ((leN l*leN m+leN n) % LL))
 unfold bytT at *
 obtain ⟨OUT,hOUT⟩:∃ o,arrB (leB 32 ((leN l*leN m+leN n) % LL))=o:=⟨_,rfl⟩
 rw [hOUT] at nB oB iB HBY ⊢
 generalize zag=z32 at *
 generalize wdW 8 (leN l*leN m+leN n)=W8 at *
 generalize wdW 4 ((leN l*leN m+leN n) % LL)=NR at *
 generalize wdW 4 (leN l)=N1 at *
 generalize wdW 4 (leN m)=N2 at *
 generalize wdW 4 (leN n)=N3 at *
 generalize arrB l=LA at *
 generalize arrB m=MA at *
 generalize arrB n=NA at *
 clear h1 h2 h3 h8 hl hm hn hOUT
 have hr0:RowsW ((((w.alloc (.cells LA 22)).alloc (.cells MA 22)).alloc (.cells NA 22)).alloc (.cells z32 22)) [(w.heap.size+1+1+1,z32,22),(w.heap.size+1+1,NA,22),(w.heap.size+1,MA,22),(w.heap.size,LA,22)]:=by
  have h:=((((RowsW.nil w).box LA 22).box MA 22).box NA 22).box z32 22
  (try simp only [World.size_alloc] at h)
  exact h
 have hb0:Below w.heap.size w ((((w.alloc (.cells LA 22)).alloc (.cells MA 22)).alloc (.cells NA 22)).alloc (.cells z32 22)):=zab (zab (zab (zab (Below.refl _ _) _) _) _) _
 have HR0:=yh hr0
 have HB0:=yh hb0
 clear hr0 hb0
 go_enter Tryz.func25,Tryz.ntmps25
 go_upto_region 1 with fail
 obtain ⟨W1,hW1⟩:∃ W,((((w.alloc (.cells LA 22)).alloc (.cells MA 22)).alloc (.cells NA 22)).alloc (.cells z32 22))=W:=⟨_,rfl⟩
 rw [hW1] at HR0 HB0
 rw [hW1]
 obtain ⟨g,hg⟩:∃ g,w.heap.size=g:=⟨_,rfl⟩
 rw [hg] at HR0
 rw [hg]
 have HG:=yh hg
 clear hg
 clear hW1
 refine wp_region_noPanic ?_
 refine zah (S:=fun W=>Below W1.heap.size W1 W) 8 (by kernel_rfl) ⟨by kernel_rfl,by kernel_rfl,by kernel_rfl,by kernel_rfl⟩ (by exact (Below.refl _ _).drew) (fun hT inv hS=>?_)
 refine' yT 0 hT inv hS (fun inv=>?_) (hy:=fun W hSW=>zad rfl rfl ((HR0.out.below hSW).tail.tail.tail.head) Tryz.underlying22 rfl iL)
 refine' yT 2 hT inv hS (fun inv=>?_) (hy:=fun W hSW=>zad rfl rfl ((HR0.out.below hSW).tail.tail.head) Tryz.underlying22 rfl iM)
 refine' yT 4 hT inv hS (fun inv=>?_) (hy:=fun W hSW=>zad rfl rfl ((HR0.out.below hSW).tail.head) Tryz.underlying22 rfl iN)
 refine xT 1 inv (fun K hK=>?_)
 go_simp
 with_reducible refine (HW1.out _).mono ?_
 rintro e u1 ⟨rfl,hb1⟩
 have kb1:=zaa hS hb1
 clear hS hb1
 refine hK.out _ _ (by exact kb1) (fun inv hS=>?_)
 clear hK K
 refine xT 3 inv (fun K hK=>?_)
 go_simp
 with_reducible refine (HW2.out _).mono ?_
 rintro e u2 ⟨rfl,hb2⟩
 have kb2:=zaa kb1 hb2
 clear hS hb2
 refine hK.out _ _ (by exact kb2) (fun inv hS=>?_)
 clear hK K
 refine xT 5 inv (fun K hK=>?_)
 go_simp
 with_reducible refine (HW3.out _).mono ?_
 rintro e u3 ⟨rfl,hb3⟩
 have kb3:=zaa kb2 hb3
 clear hS hb3
 refine hK.out _ _ (by exact kb3) (fun inv hS=>?_)
 clear hK K
 refine xT 6 inv (fun K hK=>?_)
 go_simp
 with_reducible refine (HM.out _).mono ?_
 rintro e u4 ⟨rfl,hb4⟩
 have kb4:=zaa kb3 hb4
 clear hS hb4
 refine hK.out _ _ (by exact kb4) (fun inv hS=>?_)
 clear hK K
 refine xT 7 inv (fun K hK=>?_)
 go_simp
 with_reducible refine (HRED.out _).mono ?_
 rintro e u5 ⟨rfl,hb5⟩
 have kb5:=zaa kb4 hb5
 clear hS hb5
 refine hK.out _ _ (by exact kb5) (fun inv hS=>?_)
 clear hK K
 refine zaD (by kernel_rfl) ?_
 simp only [List.drop_succ_cons,List.drop_zero]
 clear hS
 (try simp only [Act.put])
 have HR2:=yh (HR0.out.below kb5)
 have HB2:=yh (zaa HB0.out kb5)
 clear kb1 kb2 kb3 kb4 kb5
 go_wp2_with fail
 with_reducible refine (HBY.out _).mono ?_
 rintro e w2 ⟨rfl,hb2⟩
 have hr2:=(HR2.out.below hb2).head
 have HE:Hid (Below w.heap.size w (w2.setRow (g+1+1+1) OUT)):=yh (zac (zaa HB2.out hb2) (by rw [HG.out];omega))
 clear hb2
 go_wp2_with (refine yj OUT hr2 iB nB oB ?_)
 (try refine NoPanic.normal ?_)
 go_wp2_with fail
 (try simp only [Exit.inBlock,Exit.then])
 refine bodyPost_ret (results_cell_row rfl _ _ (g+1+1+1) _ OUT _ _ rfl (setRow_heap _ _ _ _ _ _ hr2) Tryz.underlying22 rfl iB) rfl ?_
 exact ⟨rfl,HE.out⟩
theorem dom_cells1:((domB++[1]).map bval).toArray=#[.int .u8 83,.int .u8 105,.int .u8 103,.int .u8 69,.int .u8 100,.int .u8 50,.int .u8 53,.int .u8 53,.int .u8 49,.int .u8 57,.int .u8 32,.int .u8 110,.int .u8 111,.int .u8 32,.int .u8 69,.int .u8 100,.int .u8 50,.int .u8 53,.int .u8 53,.int .u8 49,.int .u8 57,.int .u8 32,.int .u8 99,.int .u8 111,.int .u8 108,.int .u8 108,.int .u8 105,.int .u8 115,.int .u8 105,.int .u8 111,.int .u8 110,.int .u8 115,.int .u8 1]:=by simp [domB,bval]
theorem eprefix_any (C:Option Addr) (c:List UInt8) (n k:Nat) (hn:c.length=n) (hl:c.length≤1000) (w:World) (hc:Bs w C c):Calls Tryz.prog 12 #[.slice C n k] w (RetOb 5 w (prefB c)):=by
 by_cases hb:255<n
 ·have d1:decide ((255:Int)<(n:Int))=true:=decide_eq_true (by omega)
  have hp:prefB c=[]:=by unfold prefB;rw [if_pos (by omega)]
  rw [hp]
  clear hn hc hp hl
  go_enter Tryz.func12,Tryz.ntmps12
  go_wp2_with fail
  go_ret
  exact ⟨_,rfl,Ob.nil_ _ _ _,Below.refl _ _⟩
 ·have d1:decide ((255:Int)<(n:Int))=false:=decide_eq_false (by omega)
  have hp:prefB c=domB++[1]++[UInt8.ofNat n]++c:=by unfold prefB;rw [if_neg (by omega),hn,List.append_assoc domB];rfl
  rw [hp]
  have HN:=yh hn
  have HC:=yh hc
  have HLC:=yh hl
  have hw8:IntKind.u8.wrap (n:Int)=(n:Int):=by rw [IntKind.wrap_u8];omega
  obtain ⟨i0,hi,hz0,hz1,hz2⟩:=info_parts info5
  have hcv:(convert 23 23 (.slice (some ⟨w.heap.size,0,none⟩) 33 33)).run Tryz.prog (w.alloc (.cells #[.int .u8 83,.int .u8 105,.int .u8 103,.int .u8 69,.int .u8 100,.int .u8 50,.int .u8 53,.int .u8 53,.int .u8 49,.int .u8 57,.int .u8 32,.int .u8 110,.int .u8 111,.int .u8 32,.int .u8 69,.int .u8 100,.int .u8 50,.int .u8 53,.int .u8 53,.int .u8 49,.int .u8 57,.int .u8 32,.int .u8 99,.int .u8 111,.int .u8 108,.int .u8 108,.int .u8 105,.int .u8 115,.int .u8 105,.int .u8 111,.int .u8 110,.int .u8 115,.int .u8 1] 5))=.ok (.slice (some ⟨w.heap.size,0,none⟩) 33 33) (w.alloc (.cells #[.int .u8 83,.int .u8 105,.int .u8 103,.int .u8 69,.int .u8 100,.int .u8 50,.int .u8 53,.int .u8 53,.int .u8 49,.int .u8 57,.int .u8 32,.int .u8 110,.int .u8 111,.int .u8 32,.int .u8 69,.int .u8 100,.int .u8 50,.int .u8 53,.int .u8 53,.int .u8 49,.int .u8 57,.int .u8 32,.int .u8 99,.int .u8 111,.int .u8 108,.int .u8 108,.int .u8 105,.int .u8 115,.int .u8 105,.int .u8 111,.int .u8 110,.int .u8 115,.int .u8 1] 5 (33,34))):=Lib.run_convert_bytes_const w 23 5 #[.int .u8 83,.int .u8 105,.int .u8 103,.int .u8 69,.int .u8 100,.int .u8 50,.int .u8 53,.int .u8 53,.int .u8 49,.int .u8 57,.int .u8 32,.int .u8 110,.int .u8 111,.int .u8 32,.int .u8 69,.int .u8 100,.int .u8 50,.int .u8 53,.int .u8 53,.int .u8 49,.int .u8 57,.int .u8 32,.int .u8 99,.int .u8 111,.int .u8 108,.int .u8 108,.int .u8 105,.int .u8 115,.int .u8 105,.int .u8 111,.int .u8 110,.int .u8 115,.int .u8 1] 33 33 Tryz.underlying23 Tryz.underlying5
  obtain ⟨w1,hw1⟩:∃ w1,w.alloc (.cells #[.int .u8 83,.int .u8 105,.int .u8 103,.int .u8 69,.int .u8 100,.int .u8 50,.int .u8 53,.int .u8 53,.int .u8 49,.int .u8 57,.int .u8 32,.int .u8 110,.int .u8 111,.int .u8 32,.int .u8 69,.int .u8 100,.int .u8 50,.int .u8 53,.int .u8 53,.int .u8 49,.int .u8 57,.int .u8 32,.int .u8 99,.int .u8 111,.int .u8 108,.int .u8 108,.int .u8 105,.int .u8 115,.int .u8 105,.int .u8 111,.int .u8 110,.int .u8 115,.int .u8 1] 5 (33,34))=w1:=⟨_,rfl⟩
  have hb1:Below w.heap.size w w1:=by rw [← hw1];exact (Below.refl _ _).alloc (Nat.le_refl _) _
  have hw1s:w1.heap.size=w.heap.size+1:=by rw [← hw1,World.size_alloc]
  have b1:Bs w1 (some ⟨w.heap.size,0,none⟩) (domB++[1]):=fun _=>⟨_,0,rfl,fun j hj=>by
   have hj2:j<33:=hj
   rw [← hw1,Nat.zero_add,World.cell?_alloc_mark,← dom_cells1]
   rw [List.getElem?_toArray,List.getElem?_map,List.getElem?_eq_getElem hj]
   simp [bval,List.getD,List.getElem?_eq_getElem hj]⟩
  have e2:(([UInt8.ofNat n]:List UInt8).map bval).toArray=#[.int .u8 (n:Int)]:=by
   have:(UInt8.ofNat n).toNat=n:=by simp;omega
   simp [bval,this]
  have o2:=ob_lit w1 [UInt8.ofNat n] 1 rfl (by omega)
  rw [e2] at o2
  have hb2:Below w1.heap.size w1 (w1.alloc (.cells #[.int .u8 (n:Int)] 5)):=(Below.refl _ _).alloc (Nat.le_refl _) _
  have b2:=o2.bs
  rw [hw1s] at b2
  have B1:=yh (b1.below hb2)
  have B2:=yh b2
  have HBB:=yh (zaa hb1 hb2)
  have HW1:=yh hw1
  clear hn hc hp hl o2 hb1 hb2 b1 b2 hw1 hw1s e2 hb
  go_enter Tryz.func12,Tryz.ntmps12
  go_wp2_with (first
   | (at_builtin;refine zaV rfl (.tmp 15) (.tmp 16) 23 rfl w.heap.size 5 Tryz.underlying23 info5 _ _ rfl O3.out C c n k rfl HN.out.symm (HC.out.below kb3) (by simp [domB];have:=HLC.out;omega) kb3.size ?_;intro v4 w4 ho4 hgr4;have O4:=yh ho4;have kb4:Below w.heap.size w w4:=kb3.grown hgr4 kb3.size (fun k hk=>by obtain ⟨A',c',e',_,hf⟩:=O3.out.form;subst e';exact O3.out.fresh k (own_at hk));clear ho4 hgr4)
   | (at_builtin;refine wpList_append_grows _ rfl (.tmp 9) (.tmp 13) 23 rfl 5 i0 (.int .u8 0) 1 1 Tryz.underlying23 hi hz0 hz1 hz2 rfl (by decide) (some ⟨w.heap.size,0,none⟩) 33 33 ((domB++[1]).map bval) rfl (by intro h;cases h) rfl (fun b hb=>by injection hb with hb;subst hb;rw [HW1.out];exact B1.out.news) ⟨w.heap.size+1,0,none⟩ 1 1 ([UInt8.ofNat n].map bval) rfl rfl (by rw [HW1.out];exact B2.out.news) (by intro u hu;simp only [List.map_cons,List.map_nil,List.mem_cons,List.not_mem_nil,or_false] at hu;rcases hu with rfl;rfl) (by decide) (by unfold maxLen;omega) (by omega) ?_;intro v3 w3 ho3 hgr3;rw [HW1.out] at ho3 hgr3;have kb3:Below w.heap.size w w3:=zaa HBB.out (below_of_grown hgr3);have O3:Hid (Ob 5 w3 w.heap.size v3 (domB++[1]++[UInt8.ofNat n])):=yh (Ob.low (base:=_) (by unfold Ob;rw [List.map_append,List.length_append];exact ho3) HBB.out.size);clear ho3 hgr3))
  go_ret
  exact ⟨_,rfl,O4.out,kb4⟩
theorem RowAt.below {W W':World} {P:Option Addr} {rows:BRow} (h:RowAt W P rows) (hb:Below W.heap.size W W'):RowAt W' P rows :=
 ⟨fun hp=>by
  obtain ⟨b,o,e,hc⟩:=h.cell hp
  exact ⟨b,o,e,fun i r hi=>by rw [hb.cell (World.block_lt_of_cell? _ _ (hc i r hi))];exact hc i r hi⟩,fun r hr=>⟨(h.row r hr).1.below hb,(h.row r hr).2⟩⟩
theorem rowAt_laid {W:World} {g:Nat} {cs:Array Value} {T:TypeId} {fr:Nat × Nat} {rows:BRow} (hg:W.heap[g]?=some (.cells cs T fr)) (hc:∀ (i:Nat) (r:Option Addr × List UInt8 × Nat),rows[i]?=some r→cs[i]?=some (Value.slice r.1 r.2.1.length r.2.2)) (hr:∀ r ∈ rows,Bs W r.1 r.2.1∧r.2.1.length≤r.2.2):RowAt W (some ⟨g,0,none⟩) rows :=
 ⟨fun _=>⟨g,0,rfl,fun i r h=>by rw [Nat.zero_add,cell_of_row _ _ _ _ _ _ hg];exact hc i r h⟩,hr⟩
theorem enumber_any (P:Option Addr) (rows:BRow) (N c:Nat) (hN:rows.length=N) (hc:N≤c) (hn:N≤10) (hl:(rowsB rows).length≤10000) (w:World) (hr:RowAt w P rows) :
  Calls Tryz.prog 24 #[.slice P N c] w (RetV w (.agg (bytT (leN (zaM (rowsB rows)) % LL)))):=by
 subst hN
 have hzb:=b32_zero
 have HOF:=yh fun (W:World) (hb:Below w.heap.size w W)=>hof_any W P rows c (hr.below hb) hc hn hl
 have hdl:=digest_lenE (rowsB rows)
 generalize zaM (rowsB rows)=D at *
 have HRD:=yh fun W:World=>scReduce_any D hdl W
 have nB:=zar (l:=leB 32 (leN D % LL)) (zav _ _)
 have oB:=zap (leB 32 (leN D % LL))
 have iB:=zaf (zav 32 (leN D % LL))
 unfold bytT at *
 obtain ⟨OUT,hOUT⟩:∃ o,arrB (leB 32 (leN D % LL))=o:=⟨_,rfl⟩
 rw [hOUT] at nB oB iB HRD ⊢
 generalize zag=z32 at *
 obtain ⟨N,hN⟩:∃ N,rows.length=N:=⟨_,rfl⟩
 rw [hN] at HOF ⊢
 have HR0:=yh ((RowsW.nil w).box z32 22)
 have HB0:Hid (Below w.heap.size w (w.alloc (.cells z32 22))):=yh (zab (Below.refl _ _) _)
 clear hOUT hdl hr hc hn hl hN
 go_enter Tryz.func24,Tryz.ntmps24
 go_wp2_with fail
 with_reducible refine (HOF.out _ HB0.out).mono ?_
 rintro e v1 ⟨rfl,hb1⟩
 have HR1:=yh (HR0.out.below hb1)
 have HB1:=yh (zaa HB0.out hb1)
 clear hb1 HR0 HB0
 go_wp2_with fail
 with_reducible refine (HRD.out _).mono ?_
 rintro e v2 ⟨rfl,hb2⟩
 have hr2:=(HR1.out.below hb2).head
 have HE:Hid (Below w.heap.size w (v2.setRow w.heap.size OUT)):=yh (zac (zaa HB1.out hb2) (Nat.le_refl _))
 clear hb2
 go_wp2_with (refine yj OUT hr2 iB nB oB ?_)
 (try simp only [Exit.inBlock,Exit.then])
 refine bodyPost_ret (results_cell_row rfl _ _ (w.heap.size) _ OUT _ _ rfl (setRow_heap _ _ _ _ _ _ hr2) Tryz.underlying22 rfl iB) rfl ?_
 exact ⟨rfl,HE.out⟩
theorem Ob.none {E:TypeId} {w:World} {base g n c:Nat} {l:List UInt8} (h:Ob E w base (.slice (some ⟨g,0,none⟩) n c) l):Ob E w base (.slice (some ⟨g,0,none⟩) 0 c) []:=by
 refine ⟨rfl,?_⟩
 rcases h.2 with ⟨e,_⟩ | ⟨g',cap,cur,e,hb,hg,hnc,hcm,hcs,ht⟩
 ·cases e
 ·injection e with e1 e2 e3
  injection e1 with e1
  injection e1 with e1
  subst e1
  subst e3
  exact .inr ⟨g,c,cur,rfl,hb,hg,Nat.zero_le _,hcm,hcs,by simp⟩
theorem egrow_any (k:Nat) (hk0:0<k) (hk:k≤10000) (w:World):Calls Tryz.prog 56 #[.slice none 0 0,.int .i64 (k:Int)] w fun e w'=>∃ g c,e=.returned (.slice (some ⟨g,0,none⟩) 0 c)∧Ob 5 w' w.heap.size (.slice (some ⟨g,0,none⟩) 0 c) []∧Below w.heap.size w w':=by
 have hs0:∀ u:World,(Instr.slice 23 (.slice none 0 0) none (some (.int .i64 0)) none).run Tryz.prog u=.ok (.slice none 0 0) u:=fun u=>slice_head none 0 0 0 (Nat.le_refl _) u
 have p1:IntKind.i64.wrap (k:Int)=(k:Int):=by rw [IntKind.wrap_i64];omega
 have p2:¬ ((k:Int)<0):=by omega
 have p3:(0:Int)<(k:Int):=by omega
 have p4:(k:Int)-0=(k:Int):=by omega
 have HK:=yh hk
 have HK0:=yh hk0
 clear hk hk0
 go_enter Tryz.func56,Tryz.ntmps56
 go_wp2_with (at_builtin;refine wpList_append_zeros rfl (.tmp 20) (.tmp 21) rfl w.heap.size (.slice none 0 0) [] rfl (Ob.nil_ _ _ _) k rfl (by have:=HK.out;simp;omega) (Nat.le_refl _) ?_;intro v1 w1 ho1 hgr1;rw [List.nil_append] at ho1;obtain ⟨g1,c1,-,rfl,-,-,-⟩:=ho1.rowN (n:=k) List.length_replicate HK0.out;have kb1:Below w.heap.size w w1:=below_of_grown hgr1;have hs1:∀ u:World,(Instr.slice 23 (.slice (some ⟨g1,0,none⟩) k c1) none (some (.int .i64 0)) none).run Tryz.prog u=.ok (.slice (some ⟨g1,0,none⟩) 0 c1) u:=fun u=>slice_head _ k c1 0 (Nat.zero_le _) u;have O1:=yh ho1.none;clear ho1 hgr1)
 go_ret
 exact ⟨_,_,rfl,O1.out,kb1⟩
theorem econcat_any (P:Option Addr) (rows:BRow) (N c:Nat) (hN:rows.length=N) (hc:N≤c) (hn:N≤10) (hl0:0<(rowsB rows).length) (hl:(rowsB rows).length≤10000) (w:World) (hr:RowAt w P rows) :
  Calls Tryz.prog 26 #[.slice P N c] w (RetOb 5 w (rowsB rows)):=by
 have HROW:Hid (∀ (i:Nat) (W:World),Below w.heap.size w W→i<N→∃ b o A l c',P=some ⟨b,o,none⟩∧rows[i]?=some (A,l,c')∧W.cell? ⟨b,o+i,none⟩=some (.slice A l.length c')∧Bs W A l∧l.length≤c'):=yh fun i W hb hi=>by
  obtain ⟨b,o,e,hcl⟩:=hr.cell (by omega)
  have hg:rows[i]?=some rows[i]:=List.getElem?_eq_getElem (by omega)
  obtain ⟨h1,h2⟩:=hr.row _ (List.mem_of_getElem? hg)
  refine ⟨b,o,rows[i].1,rows[i].2.1,rows[i].2.2,e,hg,?_,h1.below hb,h2⟩
  have hcc:=hcl i _ hg
  rw [hb.cell (World.block_lt_of_cell? _ _ hcc)]
  exact hcc
 have HALL:Hid (rows.take N=rows):=yh (by rw [← hN];exact List.take_length)
 have HSUM:Hid (∀ i A l c',rows[i]?=some (A,l,c')→(rowsB (rows.take i)).length+l.length=(rowsB (rows.take (i+1))).length∧(rowsB (rows.take i)).length+l.length≤10000):=yh fun i A l c' hi=>by
  have h1:=rowsB_take rows i _ hi
  have h2:=rowsB_le rows i _ hi
  simp only at h1 h2
  exact ⟨by rw [h1,List.length_append],by omega⟩
 have HAPP:Hid (∀ i A l c',rows[i]?=some (A,l,c')→rowsB (rows.take i)++l=rowsB (rows.take (i+1))):=yh fun i A l c' hi=>(rowsB_take rows i _ hi).symm
 obtain ⟨S,hS⟩:∃ S,(rowsB rows).length=S:=⟨_,rfl⟩
 have HSL:Hid ((rowsB (rows.take N)).length=S):=yh (by rw [HALL.out];exact hS)
 rw [hS] at hl hl0
 have HGR:=yh fun W:World=>egrow_any S hl0 hl W
 have hN10:N≤10:=hn
 clear hr hc hN hS hl hl0 hn
 go_enter Tryz.func26,Tryz.ntmps26
 go_wp2_with fail
 go_loopw [3,11] (fun s i wr=>∃ k:Nat,k≤N∧i=.int .i64 (k:Int)∧s=.int .i64 ((rowsB (rows.take k)).length:Int)∧Hid (Below w.heap.size w wr)) (fun _ i _=>N-(intOf i).toNat)
 case atStart=>exact ⟨0,by omega,rfl,by simp [rowsB],yh (Below.refl _ _)⟩
 case round =>
  obtain ⟨k,hk,rfl,rfl,HB⟩:=hrel
  by_cases hlt:k<N
  ·obtain ⟨b,o,A,l,c',rfl,hri,hcell,-,hlc⟩:=HROW.out k wr HB.out hlt
   have HS1:=yh (HSUM.out k A l c' hri)
   have p1:(k:Int)<(N:Int):=by omega
   have p2:0≤(k:Int):=by omega
   have e1:(o:Int)+(k:Int)=((o+k:Nat):Int):=by omega
   obtain ⟨L,hL⟩:∃ L,l.length=L:=⟨_,rfl⟩
   obtain ⟨s,hs⟩:∃ s,(rowsB (rows.take k)).length=s:=⟨_,rfl⟩
   obtain ⟨t,ht⟩:∃ t,(rowsB (rows.take (k+1))).length=t:=⟨_,rfl⟩
   rw [hL,hs,ht] at HS1
   rw [hL] at hcell
   have q1:IntKind.i64.wrap ((s:Int)+(L:Int))=(t:Int):=by rw [IntKind.wrap_i64];have:=HS1.out;omega
   have q2:IntKind.i64.wrap (t:Int)=(t:Int):=by rw [IntKind.wrap_i64];have:=HS1.out;omega
   have q3:¬ ((t:Int)<0):=by omega
   have HLT:=yh hlt
   have HT:=yh ht
   (try rw [hs])
   clear hri hlc hL hlt hs ht
   go_wp2_with fail
   go_roundw
   case rel=>exact ⟨k+1,by have:=HLT.out;omega,by go_num,by rw [HT.out];try rfl,HB⟩
   case measure=>simp [intOf];have:=HLT.out;omega
  ·obtain rfl:k=N:=by omega
   rw [HSL.out]
   clear hk
   go_wp2_with fail
   with_reducible refine (HGR.out _).mono ?_
   rintro e w2 ⟨g2,c2,rfl,ho2,hb2⟩
   have HB2:=yh (zaa HB.out hb2)
   have HO2:Hid (Ob 5 w2 w.heap.size (.slice (some ⟨g2,0,none⟩) 0 c2) []):=yh (ho2.low HB.out.size)
   clear ho2 hb2 HB hlt
   go_wp2_with fail
   go_loopw [6,27] (fun v i wr=>∃ j:Nat,j≤k∧i=.int .i64 (j:Int)∧Hid (Ob 5 wr w.heap.size v (rowsB (rows.take j)))∧Hid (Below w.heap.size w wr)) (fun _ i _=>k-(intOf i).toNat)
   case atStart=>exact ⟨0,by omega,rfl,HO2,HB2⟩
   case round =>
    clear HO2 HB2
    obtain ⟨j,hj,rfl,HO,HB⟩:=hrel
    by_cases hlt:j<k
    ·obtain ⟨b,o,A,l,c',rfl,hri,hcell,hbs,hlc⟩:=HROW.out j wr HB.out hlt
     have HS1:=yh (HSUM.out j A l c' hri).2
     have HAP:=yh (HAPP.out j A l c' hri)
     have p1:(j:Int)<(k:Int):=by omega
     have p2:0≤(j:Int):=by omega
     have e1:(o:Int)+(j:Int)=((o+j:Nat):Int):=by omega
     obtain ⟨L,hL⟩:∃ L,l.length=L:=⟨_,rfl⟩
     rw [hL] at hcell HS1
     have HLL:=yh hL
     have HBS:=yh hbs
     have HLT:=yh hlt
     clear hri hlc hL hlt hbs
     go_wp2_with (at_builtin;refine zaV rfl (.tmp 31) (.tmp 32) 23 rfl w.heap.size 5 Tryz.underlying23 info5 _ (rowsB (rows.take j)) rfl HO.out A l L c' rfl HLL.out.symm HBS.out (by rw [HLL.out];have:=HS1.out;omega) HB.out.size ?_;intro v4 w4 ho4 hgr4;rw [HAP.out] at ho4;have O4:=yh ho4;have HB4:=yh (HB.out.grown hgr4 HB.out.size (fun k hk=>by obtain ⟨A',c',e',_,hf⟩:=HO.out.form;subst e';exact HO.out.fresh k (own_at hk)));clear ho4 hgr4)
     go_roundw
     case rel=>exact ⟨j+1,by have:=HLT.out;omega,by go_num,O4,HB4⟩
     case measure=>simp [intOf];have:=HLT.out;omega
    ·obtain rfl:j=k:=by omega
     have HO3:Hid (Ob 5 wr w.heap.size _ (rowsB rows)):=yh (by have:=HO.out;rw [HALL.out] at this;exact this)
     go_wp2_with fail
     go_ret
     exact ⟨_,rfl,HO3.out,HB.out⟩
theorem enum3 {A B D:Option Addr} {a b d J:List UInt8} {na nb nd ca cb cd:Nat} (ha:a.length=na) (hb:b.length=nb) (hd:d.length=nd) (ka:na≤ca) (kb:nb≤cb) (kd:nd≤cd) (hJ:a++b++d=J) (hl:J.length≤2000) {W:World} {g:Nat} {fr:Nat × Nat}
  (hg:W.heap[g]?=some (.cells #[.slice A na ca,.slice B nb cb,.slice D nd cd] 23 fr)) (ba:Bs W A a) (bb:Bs W B b) (bd:Bs W D d) :
  Calls Tryz.prog 24 #[.slice (some ⟨g,0,none⟩) 3 3] W (RetV W (.agg (bytT (leN (zaM J) % LL)))):=by
 subst ha hb hd
 have e:rowsB [(A,a,ca),(B,b,cb),(D,d,cd)]=J:=by rw [← hJ];simp [rowsB]
 have h:=enumber_any (some ⟨g,0,none⟩) [(A,a,ca),(B,b,cb),(D,d,cd)] 3 3 rfl (Nat.le_refl _) (by omega) (by rw [e];omega) W (rowAt_laid hg (fun i r h=>by
   match i,h with
   | 0,h=>injection h with h;subst h;rfl
   | 1,h=>injection h with h;subst h;rfl
   | 2,h=>injection h with h;subst h;rfl) (fun r h=>by
   simp only [List.mem_cons,List.not_mem_nil,or_false] at h
   rcases h with rfl | rfl | rfl
   ·exact ⟨ba,ka⟩
   ·exact ⟨bb,kb⟩
   ·exact ⟨bd,kd⟩))
 rwa [e] at h
theorem enum4 {A B C D:Option Addr} {a b c d J:List UInt8} {na nb nc nd ca cb cc cd:Nat} (ha:a.length=na) (hb:b.length=nb) (hc:c.length=nc) (hd:d.length=nd) (ka:na≤ca) (kb:nb≤cb) (kc:nc≤cc) (kd:nd≤cd) (hJ:a++b++c++d=J) (hl:J.length≤2000) {W:World} {g:Nat} {fr:Nat × Nat}
  (hg:W.heap[g]?=some (.cells #[.slice A na ca,.slice B nb cb,.slice C nc cc,.slice D nd cd] 23 fr)) (ba:Bs W A a) (bb:Bs W B b) (bc:Bs W C c) (bd:Bs W D d) :
  Calls Tryz.prog 24 #[.slice (some ⟨g,0,none⟩) 4 4] W (RetV W (.agg (bytT (leN (zaM J) % LL)))):=by
 subst ha hb hc hd
 have e:rowsB [(A,a,ca),(B,b,cb),(C,c,cc),(D,d,cd)]=J:=by rw [← hJ];simp [rowsB]
 have h:=enumber_any (some ⟨g,0,none⟩) [(A,a,ca),(B,b,cb),(C,c,cc),(D,d,cd)] 4 4 rfl (Nat.le_refl _) (by omega) (by rw [e];omega) W (rowAt_laid hg (fun i r h=>by
   match i,h with
   | 0,h=>injection h with h;subst h;rfl
   | 1,h=>injection h with h;subst h;rfl
   | 2,h=>injection h with h;subst h;rfl
   | 3,h=>injection h with h;subst h;rfl) (fun r h=>by
   simp only [List.mem_cons,List.not_mem_nil,or_false] at h
   rcases h with rfl | rfl | rfl | rfl
   ·exact ⟨ba,ka⟩
   ·exact ⟨bb,kb⟩
   ·exact ⟨bc,kc⟩
   ·exact ⟨bd,kd⟩))
 rwa [e] at h
theorem econcat2 {A B:Option Addr} {a b:List UInt8} {na nb ca cb:Nat} (ha:a.length=na) (hb:b.length=nb) (ka:na≤ca) (kb:nb≤cb) (h0:0<na) (hl:na+nb≤2000) {W:World} {g:Nat} {fr:Nat × Nat}
  (hg:W.heap[g]?=some (.cells #[.slice A na ca,.slice B nb cb] 23 fr)) (ba:Bs W A a) (bb:Bs W B b) :
  Calls Tryz.prog 26 #[.slice (some ⟨g,0,none⟩) 2 2] W (RetOb 5 W (a++b)):=by
 subst ha hb
 have e:rowsB [(A,a,ca),(B,b,cb)]=a++b:=by simp [rowsB]
 have h:=econcat_any (some ⟨g,0,none⟩) [(A,a,ca),(B,b,cb)] 2 2 rfl (Nat.le_refl _) (by omega) (by rw [e,List.length_append];omega) (by rw [e,List.length_append];omega) W (rowAt_laid hg (fun i r h=>by
   match i,h with
   | 0,h=>injection h with h;subst h;rfl
   | 1,h=>injection h with h;subst h;rfl) (fun r h=>by
   simp only [List.mem_cons,List.not_mem_nil,or_false] at h
   rcases h with rfl | rfl
   ·exact ⟨ba,ka⟩
   ·exact ⟨bb,kb⟩))
 rwa [e] at h
theorem eof1 {A:Option Addr} {a:List UInt8} {na ca:Nat} (ha:a.length=na) (ka:na≤ca) (hl:na≤2000) {W:World} {g:Nat} {fr:Nat × Nat}
  (hg:W.heap[g]?=some (.cells #[.slice A na ca] 23 fr)) (ba:Bs W A a) :
  Calls Tryz.prog 21 #[.slice (some ⟨g,0,none⟩) 1 1] W (RetV W (.agg (arrB (zaM a)))):=by
 subst ha
 have e:rowsB [(A,a,ca)]=a:=by simp [rowsB]
 have h:=hof_any W (some ⟨g,0,none⟩) [(A,a,ca)] 1 (rowAt_laid hg (fun i r h=>by
   match i,h with
   | 0,h=>injection h with h;subst h;rfl) (fun r h=>by
   simp only [List.mem_cons,List.not_mem_nil,or_false] at h
   subst h
   exact ⟨ba,ka⟩)) (Nat.le_refl _) (by simp) (by rw [e];omega)
 rwa [e] at h
theorem sl64_lo (g:Nat) (u:World):(Instr.sliceAt 24 (.pointer (some ⟨g,0,none⟩)) none (some (.int .i64 32)) none).run Tryz.prog u=.ok (.slice (some ⟨g,0,none⟩) 32 64) u:=by
 have hu:Tryz.prog.underlying 24=some (.array (Tryz.prog.arrayLen 24) (Tryz.prog.elem 24)):=by kernel_rfl
 have hl:Tryz.prog.arrayLen 24=64:=by kernel_rfl
 have hz:∀ W:World,(sizeOf (Tryz.prog.elem 24)).run Tryz.prog W=.ok 1 W:=fun W=>by kernel_rfl
 rw [run_sliceAt_array_h u _ _ hu .i64 32 (by omega) (by rw [hl];omega),hz,hl]
 simp only [Result.andThen,slicedAt]
 rfl
theorem sl64_hi (g:Nat) (u:World):(Instr.sliceAt 24 (.pointer (some ⟨g,0,none⟩)) (some (.int .i64 32)) none none).run Tryz.prog u=.ok (.slice (some ⟨g,32,none⟩) 32 32) u:=by
 have hu:Tryz.prog.underlying 24=some (.array (Tryz.prog.arrayLen 24) (Tryz.prog.elem 24)):=by kernel_rfl
 have hl:Tryz.prog.arrayLen 24=64:=by kernel_rfl
 have hz:∀ W:World,(sizeOf (Tryz.prog.elem 24)).run Tryz.prog W=.ok 1 W:=fun W=>by kernel_rfl
 rw [run_sliceAt_array_l u _ _ hu .i64 32 (by omega) (by rw [hl];omega),hz,hl]
 simp only [Result.andThen,slicedAt]
 rfl
theorem arr32_at (g o c:Nat) (u:World):(Instr.arrayAt 22 (.slice (some ⟨g,o,none⟩) 32 c)).run Tryz.prog u=.ok (.pointer (some ⟨g,o,none⟩)) u:=by
 have hu:Tryz.prog.underlying 22=some (.array 32 5):=by kernel_rfl
 simp [Instr.arrayAt,run_underlying hu]
theorem arr32_info' {l:List UInt8} (h:l.length=32):(Tryz.prog.info? 22).map (·.size)=some (l.map bval).length:=by rw [List.length_map,h];kernel_rfl
theorem arr64_info' {l:List UInt8} (h:l.length=64):(Tryz.prog.info? 24).map (·.size)=some (l.map bval).length:=by rw [List.length_map,h];kernel_rfl
theorem row_lo {W:World} {g k:Nat} {l:List UInt8} {t:TypeId} (h:W.heap[g]?=some (.cells (arrB l) t (0,0))):W.rangeAt g 0 ((l.take k).map bval):=bs_range (bs_take (row_bs h) k)
theorem row_hi {W:World} {g k:Nat} {l:List UInt8} {t:TypeId} (h:W.heap[g]?=some (.cells (arrB l) t (0,0))):W.rangeAt g k ((l.drop k).map bval):=bs_range (row_bs_from h)
open Pm Fl
namespace Ed
section
variable {N:Nat} [NeZero N]
theorem dbl1 (x y u:Fin N):(x*u+y*u)*(x*u+y*u)-(x*u*(x*u)+y*u*(y*u))=u*u*(x*y+x*y):=by grind
theorem dbl2 {d x y:Fin N} (u:Fin N) (h:y*y-x*x=1+d*(x*x)*(y*y)):y*u*(y*u)-x*u*(x*u)=u*u*(1+d*x*x*y*y):=by
 have e:y*u*(y*u)-x*u*(x*u)=u*u*(y*y-x*x):=by grind
 rw [e,h]
 grind
theorem dbl3 (d x y u:Fin N):u*u+u*u-u*u*(1+d*x*x*y*y)=u*u*(1-d*x*x*y*y):=by grind
theorem dbl4 (x y u:Fin N):x*u*(x*u)+y*u*(y*u)=u*u*(y*y+x*x):=by grind
theorem dbl5 (a b c u:Fin N):u*u*(a*b)*(u*u*c)=a*(u*u*c*(u*u*b)):=by grind
theorem dbl6 (a b c u:Fin N):u*u*b*(u*u*(a*c))=a*(u*u*c*(u*u*b)):=by grind
theorem dbl7 (a b c e u:Fin N):u*u*(a*b)*(u*u*(e*c))=a*e*(u*u*c*(u*u*b)):=by grind
theorem rep_dbl {d i:Fin N} (hf:Full d i) {X Y Z T:Fin N} {p:Pt d} (hp:Rep X Y Z T p) :
  Rep (((X+Y)*(X+Y)-(X*X+Y*Y))*(Z*Z+Z*Z-(Y*Y-X*X))) ((Y*Y-X*X)*(X*X+Y*Y)) ((Z*Z+Z*Z-(Y*Y-X*X))*(Y*Y-X*X)) (((X+Y)*(X+Y)-(X*X+Y*Y))*(X*X+Y*Y)) (p.add hf p):=by
 obtain ⟨z,rfl,rfl,rfl⟩:=hp
 have pr:=hf.pr
 obtain ⟨hB,hD⟩:=full_ne hf p.on p.on
 have hu:(p.add hf p).x*(1+d*p.x*p.x*p.y*p.y)=p.x*p.y+p.x*p.y:=zaB pr hB
 have hv:(p.add hf p).y*(1-d*p.x*p.x*p.y*p.y)=p.y*p.y+p.x*p.x:=zaB pr hD
 have hz:=mul_ne pr z z
 rw [dbl1,dbl2 Z p.on,dbl3,dbl4,← hu,← hv]
 exact ⟨mul_ne pr (mul_ne pr hz hD) (mul_ne pr hz hB),dbl5 _ _ _ _,dbl6 _ _ _ _,dbl7 _ _ _ _ _⟩
end
end Ed
theorem co_dbl {X Y Z T a b z h g s ss e zz f:Nat} {p:PtD} (hp:Co X Y Z T p) (ha:(X*X) % PP=a) (hb:(Y*Y) % PP=b) (hz:(Z*Z) % PP=z) (hh:(a+b) % PP=h) (hg:(b+(PP-a)) % PP=g)
  (hs:(X+Y) % PP=s) (hss:(s*s) % PP=ss) (he:(ss+(PP-h)) % PP=e) (hzz:(z+z) % PP=zz) (hf:(zz+(PP-g)) % PP=f) :
  Co ((e*f) % PP) ((g*h) % PP) ((f*g) % PP) ((e*h) % PP) (padd p p):=by
 refine ⟨zak _,zak _,zak _,zak _,?_⟩
 have r:=Ed.rep_dbl F25519.full hp.rep
 have la:a<PP:=by rw [← ha];exact zak _
 have lh:h<PP:=by rw [← hh];exact zak _
 have lg:g<PP:=by rw [← hg];exact zak _
 have ea:F25519.c a=F25519.c X*F25519.c X:=by rw [← ha,zan]
 have eb:F25519.c b=F25519.c Y*F25519.c Y:=by rw [← hb,zan]
 have ez:F25519.c z=F25519.c Z*F25519.c Z:=by rw [← hz,zan]
 have eh:F25519.c h=F25519.c X*F25519.c X+F25519.c Y*F25519.c Y:=by rw [← hh,c_plus,ea,eb]
 have eg:F25519.c g=F25519.c Y*F25519.c Y-F25519.c X*F25519.c X:=by rw [← hg,c_less la,ea,eb]
 have ee:F25519.c e=(F25519.c X+F25519.c Y)*(F25519.c X+F25519.c Y)-(F25519.c X*F25519.c X+F25519.c Y*F25519.c Y):=by rw [← he,c_less lh,← hss,zan,← hs,c_plus,eh]
 have ef:F25519.c f=F25519.c Z*F25519.c Z+F25519.c Z*F25519.c Z-(F25519.c Y*F25519.c Y-F25519.c X*F25519.c X):=by rw [← hf,c_less lg,← hzz,c_plus,ez,eg]
 rw [zan,zan,zan,zan,ee,ef,eg,eh]
 exact r
theorem twice_mod (x d m:Nat):(x*((d+d) % m)) % m=((x*d) % m+(x*d) % m) % m:=by
 rw [← Nat.add_mod,Nat.mul_mod,Nat.mod_mod,← Nat.mul_mod,Nat.mul_add]
theorem twice_mod2 (x d m:Nat):((x+x) % m*d) % m=((x*d) % m+(x*d) % m) % m:=by
 rw [← Nat.add_mod,Nat.mul_mod,Nat.mod_mod,← Nat.mul_mod,Nat.add_mul]
theorem co_add2 {X1 Y1 Z1 T1 X2 Y2 Z2 T2 A B t c C z D E F G H:Nat} {p q:PtD} (h1:Co X1 Y1 Z1 T1 p) (h2:Co X2 Y2 Z2 T2 q)
  (hA:((Y1+(PP-X1)) % PP*((Y2+(PP-X2)) % PP)) % PP=A) (hB:((Y1+X1) % PP*((Y2+X2) % PP)) % PP=B)
  (ht:(T1*T2) % PP=t) (hc:(t*edN) % PP=c) (hC:(c+c) % PP=C) (hz:(Z1*Z2) % PP=z) (hD:(z+z) % PP=D)
  (hE:(B+(PP-A)) % PP=E) (hF:(D+(PP-C)) % PP=F) (hG:(D+C) % PP=G) (hH:(B+A) % PP=H) :
  Co ((E*F) % PP) ((G*H) % PP) ((F*G) % PP) ((E*H) % PP) (padd p q) :=
 co_add h1 h2 hA hB (by rw [ht,twice_mod,hc,hC]) (by rw [twice_mod2,hz,hD]) hE hF hG hH
def Pq (X Y Z T:Nat) (p:PtD):Prop:=Co X Y Z T p∨(X=0∧Y=0∧Z=0∧T=0∧p=pzero)
theorem co_zne {X Y Z T:Nat} {p:PtD} (h:Co X Y Z T p):¬ Z=0:=fun e=>h.rep.z (by rw [e];rfl)
theorem Pq.no {X Y Z T:Nat} {p:PtD} (h:Pq X Y Z T p) (hz:¬ Z=0):Co X Y Z T p:=h.elim id fun e=>absurd e.2.2.1 hz
theorem Pq.yes {X Y Z T:Nat} {p:PtD} (h:Pq X Y Z T p) (hz:Z=0):p=pzero:=h.elim (fun e=>absurd hz (co_zne e)) fun e=>e.2.2.2.2
theorem pq_zero:Pq 0 0 0 0 pzero:=.inr ⟨rfl,rfl,rfl,rfl,rfl⟩
theorem neg0 (m:Nat):(m-0) % m=0:=by rw [Nat.sub_zero,Nat.mod_self]
theorem sub0 (m:Nat):(0+(m-0)) % m=0:=by rw [Nat.zero_add,neg0]
theorem pneg_zero:Ed.Pt.neg pzero=pzero:=Ed.Pt.ext_ (by show -(0:Fin F25519.P)=0;grind) rfl
theorem pq_neg {X Y Z T:Nat} {p:PtD} (h:Pq X Y Z T p):Pq ((PP-X) % PP) Y Z ((PP-T) % PP) p.neg:=by
 rcases h with h | ⟨rfl,rfl,rfl,rfl,rfl⟩
 ·exact .inl (co_neg h)
 ·rw [neg0,pneg_zero];exact pq_zero
theorem pq_dbl {X Y Z T a b z h g s ss e zz f:Nat} {p:PtD} (hp:Pq X Y Z T p) (ha:(X*X) % PP=a) (hb:(Y*Y) % PP=b) (hz:(Z*Z) % PP=z) (hh:(a+b) % PP=h) (hg:(b+(PP-a)) % PP=g)
  (hs:(X+Y) % PP=s) (hss:(s*s) % PP=ss) (he:(ss+(PP-h)) % PP=e) (hzz:(z+z) % PP=zz) (hf:(zz+(PP-g)) % PP=f) :
  Pq ((e*f) % PP) ((g*h) % PP) ((f*g) % PP) ((e*h) % PP) (padd p p):=by
 rcases hp with hp | ⟨rfl,rfl,rfl,rfl,rfl⟩
 ·exact .inl (co_dbl hp ha hb hz hh hg hs hss he hzz hf)
 ·rw [Nat.zero_mul,Nat.zero_mod] at ha hb hz
  subst ha hb hz
  rw [sub0] at hg
  rw [Nat.zero_add,Nat.zero_mod] at hh hs hzz
  subst hg hh hs hzz
  rw [Nat.zero_mul,Nat.zero_mod] at hss
  subst hss
  rw [sub0] at he hf
  subst he hf
  rw [Nat.zero_mul,Nat.zero_mod]
  refine .inr ⟨rfl,rfl,rfl,rfl,?_⟩
  exact Ed.Pt.zero_add (hf:=F25519.full) pzero
def bD:List UInt8:=[0xa3,0x78,0x59,0x13,0xca,0x4d,0xeb,0x75,0xab,0xd8,0x41,0x41,0x4d,0x0a,0x70,0x00,0x98,0xe8,0x79,0x77,0x79,0x40,0xc7,0x8c,0x73,0xfe,0x6f,0x2b,0xee,0x6c,0x03,0x52]
def bBX:List UInt8:=[0x1a,0xd5,0x25,0x8f,0x60,0x2d,0x56,0xc9,0xb2,0xa7,0x25,0x95,0x60,0xc7,0x2c,0x69,0x5c,0xdc,0xd6,0xfd,0x31,0xe2,0xa4,0xc0,0xfe,0x53,0x6e,0xcd,0xd3,0x36,0x69,0x21]
def bBY:List UInt8:=[0x58,0x66,0x66,0x66,0x66,0x66,0x66,0x66,0x66,0x66,0x66,0x66,0x66,0x66,0x66,0x66,0x66,0x66,0x66,0x66,0x66,0x66,0x66,0x66,0x66,0x66,0x66,0x66,0x66,0x66,0x66,0x66]
theorem bD_len:bD.length=32:=rfl
theorem bBX_len:bBX.length=32:=rfl
theorem bBY_len:bBY.length=32:=rfl
theorem edN_val:edN=F25519.dV.val:=by
 have h:=congrArg Fin.val c_edN
 rwa [c_valP edN_lt] at h
theorem bD_fe:feN bD=edN:=by
 rw [edN_val]
 show feN bD=37095705934669439343138083508754565189542113879843219016388785533085940283555
 decide +kernel
theorem bBX_fe:feN bBX=F25519.bX:=by decide +kernel
theorem bBY_fe:feN bBY=F25519.bY:=by decide +kernel
def RetFeB (R:Array Value→Nat→Prop) (W:World) (x:Nat) (b:Bool) (e:Ending) (w':World):Prop:=∃ c,e=.returned (.tuple #[.agg c,.bool b])∧R c x∧Below W.heap.size W w'
end Go.Proofs.YtkgodlcnoenmbaaGreat
namespace Go.Proofs.YtkgodlcnoenmbaaGreat
open Go.RowKit
set_option linter.unusedVariables false
set_option maxRecDepth 100000
def limb5 (a b c d e:Nat):Array Value:=#[.int .u64 (a:Int),.int .u64 (b:Int),.int .u64 (c:Int),.int .u64 (d:Int),.int .u64 (e:Int)]
def feR (cs:Array Value) (x:Nat):Prop:=∃ a b c d e:Nat,cs=limb5 a b c d e∧a<L51∧b<L51∧c<L51∧d<L51∧e<L51∧val5 a b c d e % PP=x
def wide2 (v:Nat):Array Value:=#[.int .u64 ((v/18446744073709551616:Nat):Int),.int .u64 ((v % 18446744073709551616:Nat):Int)]
theorem and51 (n:Nat) (h:n<18446744073709551616):bits .and .u64 (n:Int) 2251799813685247=((n % 2251799813685248:Nat):Int):=by
 have h:=u64_and_nat n 2251799813685247 h (by omega)
 rw [show (2251799813685247:Nat)=2^51-1 by decide,Nat.and_two_pow_sub_one_eq_mod] at h
 exact h
theorem limb5_info (a b c d e:Nat):(Tryz.prog.info? 63).map (·.size)=some (limb5 a b c d e).size:=by kernel_rfl
theorem limb5_one (a b c d e:Nat):(limb5 a b c d e).all (·.oneCell')=true:=by simp [limb5,Value.oneCell']
set_option maxHeartbeats 1600000 in
theorem carried_any (l0 l1 l2 l3 l4:Nat) (h0:l0<18446744073709551616) (h1:l1<18446744073709551616) (h2:l2<18446744073709551616) (h3:l3<18446744073709551616) (h4:l4<18446744073709551616) (W:World) :
  Calls Tryz.prog 126 #[.int .u64 (l0:Int),.int .u64 (l1:Int),.int .u64 (l2:Int),.int .u64 (l3:Int),.int .u64 (l4:Int)] W
   (RetV W (.agg (limb5 (l0 % M51+19*(l4/M51)) (l1 % M51+l0/M51) (l2 % M51+l1/M51) (l3 % M51+l2/M51) (l4 % M51+l3/M51)))):=by
 have a0:=and51 l0 h0
 have a1:=and51 l1 h1
 have a2:=and51 l2 h2
 have a3:=and51 l3 h3
 have a4:=and51 l4 h4
 have d0:(l0:Int)/2251799813685248=((l0/2251799813685248:Nat):Int):=by omega
 have d1:(l1:Int)/2251799813685248=((l1/2251799813685248:Nat):Int):=by omega
 have d2:(l2:Int)/2251799813685248=((l2/2251799813685248:Nat):Int):=by omega
 have d3:(l3:Int)/2251799813685248=((l3/2251799813685248:Nat):Int):=by omega
 have d4:(l4:Int)/2251799813685248=((l4/2251799813685248:Nat):Int):=by omega
 have q4:l4/2251799813685248<8192:=by omega
 have q3:l3/2251799813685248<8192:=by omega
 have q2:l2/2251799813685248<8192:=by omega
 have q1:l1/2251799813685248<8192:=by omega
 have q0:l0/2251799813685248<8192:=by omega
 have r4:l4 % 2251799813685248<2251799813685248:=by omega
 have r3:l3 % 2251799813685248<2251799813685248:=by omega
 have r2:l2 % 2251799813685248<2251799813685248:=by omega
 have r1:l1 % 2251799813685248<2251799813685248:=by omega
 have r0:l0 % 2251799813685248<2251799813685248:=by omega
 unfold M51
 generalize l0/2251799813685248=u0 at *
 generalize l1/2251799813685248=u1 at *
 generalize l2/2251799813685248=u2 at *
 generalize l3/2251799813685248=u3 at *
 generalize l4/2251799813685248=u4 at *
 generalize l0 % 2251799813685248=v0 at *
 generalize l1 % 2251799813685248=v1 at *
 generalize l2 % 2251799813685248=v2 at *
 generalize l3 % 2251799813685248=v3 at *
 generalize l4 % 2251799813685248=v4 at *
 clear h0 h1 h2 h3 h4
 unfold limb5
 go_enter Tryz.func126,Tryz.ntmps126
 go_wp2
 refine bodyPost_ret (v:=.agg #[.int .u64 ((v0+19*u4:Nat):Int),.int .u64 ((v1+u0:Nat):Int),.int .u64 ((v2+u1:Nat):Int),.int .u64 ((v3+u2:Nat):Int),.int .u64 ((v4+u3:Nat):Int)]) (by simp [results,Tryz.results126,go_sem]) rfl ⟨rfl,(Below.refl _ _).alloc (Nat.le_refl _) _⟩
end Go.Proofs.YtkgodlcnoenmbaaGreat
namespace Go.Proofs.YtkgodlcnoenmbaaGreat
open Go.RowKit
set_option linter.unusedVariables false
set_option maxRecDepth 100000
abbrev carr0 (a e:Nat):Nat:=a % M51+19*(e/M51)
abbrev carr1 (a b:Nat):Nat:=a % M51+b/M51
theorem feR_carr {a b c d e x:Nat} (ha:a<18446744073709551616) (hb:b<18446744073709551616) (hc:c<18446744073709551616) (hd:d<18446744073709551616) (he:e<18446744073709551616) (h:val5 a b c d e % PP=x) :
  feR (limb5 (carr0 a e) (carr1 b a) (carr1 c b) (carr1 d c) (carr1 e d)) x :=
 ⟨_,_,_,_,_,rfl,by unfold carr0 M51 L51;omega,by unfold carr1 M51 L51;omega,by unfold carr1 M51 L51;omega,by unfold carr1 M51 L51;omega,by unfold carr1 M51 L51;omega,by rw [← h];exact val5_mod⟩
set_option maxHeartbeats 1600000 in
theorem feadd_any {c d:Array Value} {x y:Nat} (hx:feR c x) (hy:feR d y) (W:World):Calls Tryz.prog 82 #[.agg c,.agg d] W (RetFe feR W ((x+y) % PP)):=by
 obtain ⟨a0,a1,a2,a3,a4,rfl,ha0,ha1,ha2,ha3,ha4,rfl⟩:=hx
 obtain ⟨b0,b1,b2,b3,b4,rfl,hb0,hb1,hb2,hb3,hb4,rfl⟩:=hy
 unfold L51 at *
 have hR:feR (limb5 (carr0 (a0+b0) (a4+b4)) (carr1 (a1+b1) (a0+b0)) (carr1 (a2+b2) (a1+b1)) (carr1 (a3+b3) (a2+b2)) (carr1 (a4+b4) (a3+b3))) ((val5 a0 a1 a2 a3 a4 % PP+val5 b0 b1 b2 b3 b4 % PP) % PP) :=
  feR_carr (by omega) (by omega) (by omega) (by omega) (by omega) (by rw [val5_add,add_mod5])
 have HC:Hid (∀ W':World,Calls Tryz.prog 126 #[.int .u64 ((a0+b0:Nat):Int),.int .u64 ((a1+b1:Nat):Int),.int .u64 ((a2+b2:Nat):Int),.int .u64 ((a3+b3:Nat):Int),.int .u64 ((a4+b4:Nat):Int)] W'
   (RetV W' (.agg (limb5 (carr0 (a0+b0) (a4+b4)) (carr1 (a1+b1) (a0+b0)) (carr1 (a2+b2) (a1+b1)) (carr1 (a3+b3) (a2+b2)) (carr1 (a4+b4) (a3+b3)))))):=yh fun W'=>carried_any _ _ _ _ _ (by omega) (by omega) (by omega) (by omega) (by omega) W'
 have w0:(a0:Int)+(b0:Int)=((a0+b0:Nat):Int):=(Int.natCast_add _ _).symm
 have w1:(a1:Int)+(b1:Int)=((a1+b1:Nat):Int):=(Int.natCast_add _ _).symm
 have w2:(a2:Int)+(b2:Int)=((a2+b2:Nat):Int):=(Int.natCast_add _ _).symm
 have w3:(a3:Int)+(b3:Int)=((a3+b3:Nat):Int):=(Int.natCast_add _ _).symm
 have w4:(a4:Int)+(b4:Int)=((a4+b4:Nat):Int):=(Int.natCast_add _ _).symm
 have l0:a0+b0<18446744073709551616:=by omega
 have l1:a1+b1<18446744073709551616:=by omega
 have l2:a2+b2<18446744073709551616:=by omega
 have l3:a3+b3<18446744073709551616:=by omega
 have l4:a4+b4<18446744073709551616:=by omega
 obtain ⟨S,hS⟩:∃ S,limb5 (carr0 (a0+b0) (a4+b4)) (carr1 (a1+b1) (a0+b0)) (carr1 (a2+b2) (a1+b1)) (carr1 (a3+b3) (a2+b2)) (carr1 (a4+b4) (a3+b3))=S:=⟨_,rfl⟩
 rw [hS] at HC hR
 have iS:(Tryz.prog.info? 63).map (·.size)=some S.size:=by rw [← hS];exact limb5_info _ _ _ _ _
 have sS:(#[.int .u64 0,.int .u64 0,.int .u64 0,.int .u64 0,.int .u64 0]:Array Value).size=S.size:=by rw [← hS];rfl
 have oS:S.all (·.oneCell')=true:=by rw [← hS];exact limb5_one _ _ _ _ _
 have HP:Hid (∀ w',Below W.heap.size W w'→RetFe feR W ((val5 a0 a1 a2 a3 a4 % PP+val5 b0 b1 b2 b3 b4 % PP) % PP) (.returned (.agg S)) w'):=yh fun w' hb=>⟨S,rfl,hR,hb⟩
 clear hS hR
 generalize a0+b0=s0 at *
 generalize a1+b1=s1 at *
 generalize a2+b2=s2 at *
 generalize a3+b3=s3 at *
 generalize a4+b4=s4 at *
 unfold limb5
 have z0:((W.alloc (.cells #[.int .u64 (a0:Int),.int .u64 (a1:Int),.int .u64 (a2:Int),.int .u64 (a3:Int),.int .u64 (a4:Int)] 63)).alloc (.cells #[.int .u64 (b0:Int),.int .u64 (b1:Int),.int .u64 (b2:Int),.int .u64 (b3:Int),.int .u64 (b4:Int)] 63)).heap.size=W.heap.size+1+1:=by (try simp only [World.size_alloc])
 obtain ⟨W1,hW1⟩:∃ W1,((W.alloc (.cells #[.int .u64 (a0:Int),.int .u64 (a1:Int),.int .u64 (a2:Int),.int .u64 (a3:Int),.int .u64 (a4:Int)] 63)).alloc (.cells #[.int .u64 (b0:Int),.int .u64 (b1:Int),.int .u64 (b2:Int),.int .u64 (b3:Int),.int .u64 (b4:Int)] 63)).alloc (.cells #[.int .u64 0,.int .u64 0,.int .u64 0,.int .u64 0,.int .u64 0] 63)=W1:=⟨_,rfl⟩
 have hb1:Below W.heap.size W W1:=by rw [← hW1];exact zab (zab (zab (Below.refl _ _) _) _) _
 have hrow:W1.heap[W.heap.size+1+1]?=some (.cells #[.int .u64 0,.int .u64 0,.int .u64 0,.int .u64 0,.int .u64 0] 63 (0,0)):=by rw [← hW1,← z0];exact heap_alloc_new _ _
 have HB1:=yh hb1
 have HR:=yh hrow
 have HW1:=yh hW1
 clear hb1 hrow hW1 z0
 clear ha0 hb0
 clear ha1 hb1
 clear ha2 hb2
 clear ha3 hb3
 clear ha4 hb4
 go_enter Tryz.func82,Tryz.ntmps82
 go_wp2_with fail
 rw [HW1.out]
 with_reducible refine (HC.out _).mono ?_
 rintro e w2 ⟨rfl,hb2⟩
 have hr2:w2.heap[W.heap.size+1+1]?=some (.cells #[.int .u64 0,.int .u64 0,.int .u64 0,.int .u64 0,.int .u64 0] 63 (0,0)):=by rw [hb2.block _ (Array.getElem?_eq_some_iff.1 HR.out).1];exact HR.out
 have HE:Hid (Below W.heap.size W (w2.setRow (W.heap.size+1+1) S)):=yh (zac (zaa HB1.out hb2) (by omega))
 clear hb2
 go_wp2_with (refine yj S hr2 iS sS oS ?_)
 (try simp only [Exit.inBlock,Exit.then])
 refine bodyPost_ret (results_cell_row rfl _ _ (W.heap.size+1+1) _ S _ _ rfl (setRow_heap w2 _ _ _ _ _ hr2) Tryz.underlying63 rfl iS) rfl ?_
 exact HP.out _ HE.out
theorem val5_sub2 {a b c d e a' b' c' d' e' s0 s1 s2 s3 s4:Nat} (h0:s0+a'=a+4503599627370458) (h1:s1+b'=b+4503599627370494) (h2:s2+c'=c+4503599627370494) (h3:s3+d'=d+4503599627370494) (h4:s4+e'=e+4503599627370494) :
  val5 s0 s1 s2 s3 s4+val5 a' b' c' d' e'=val5 a b c d e+2*PP:=by
 unfold val5 M51 M102 M153 M204 PP
 omega
set_option maxHeartbeats 1600000 in
theorem fesub_any {c d:Array Value} {x y:Nat} (hx:feR c x) (hy:feR d y) (W:World):Calls Tryz.prog 81 #[.agg c,.agg d] W (RetFe feR W ((x+(PP-y)) % PP)):=by
 obtain ⟨a0,a1,a2,a3,a4,rfl,ha0,ha1,ha2,ha3,ha4,rfl⟩:=hx
 obtain ⟨b0,b1,b2,b3,b4,rfl,hb0,hb1,hb2,hb3,hb4,rfl⟩:=hy
 unfold L51 at *
 obtain ⟨k0,w0,l0,m0⟩:∃ k:Nat,(a0:Int)+4503599627370458=(k:Int)∧k<18446744073709551616∧k=a0+4503599627370458:=⟨a0+4503599627370458,by omega,by omega,rfl⟩
 obtain ⟨k1,w1,l1,m1⟩:∃ k:Nat,(a1:Int)+4503599627370494=(k:Int)∧k<18446744073709551616∧k=a1+4503599627370494:=⟨a1+4503599627370494,by omega,by omega,rfl⟩
 obtain ⟨k2,w2,l2,m2⟩:∃ k:Nat,(a2:Int)+4503599627370494=(k:Int)∧k<18446744073709551616∧k=a2+4503599627370494:=⟨a2+4503599627370494,by omega,by omega,rfl⟩
 obtain ⟨k3,w3,l3,m3⟩:∃ k:Nat,(a3:Int)+4503599627370494=(k:Int)∧k<18446744073709551616∧k=a3+4503599627370494:=⟨a3+4503599627370494,by omega,by omega,rfl⟩
 obtain ⟨k4,w4,l4,m4⟩:∃ k:Nat,(a4:Int)+4503599627370494=(k:Int)∧k<18446744073709551616∧k=a4+4503599627370494:=⟨a4+4503599627370494,by omega,by omega,rfl⟩
 obtain ⟨s0,v0,n0,j0⟩:∃ s:Nat,(k0:Int)-(b0:Int)=(s:Int)∧s<18446744073709551616∧s+b0=a0+4503599627370458:=⟨k0-b0,by omega,by omega,by omega⟩
 obtain ⟨s1,v1,n1,j1⟩:∃ s:Nat,(k1:Int)-(b1:Int)=(s:Int)∧s<18446744073709551616∧s+b1=a1+4503599627370494:=⟨k1-b1,by omega,by omega,by omega⟩
 obtain ⟨s2,v2,n2,j2⟩:∃ s:Nat,(k2:Int)-(b2:Int)=(s:Int)∧s<18446744073709551616∧s+b2=a2+4503599627370494:=⟨k2-b2,by omega,by omega,by omega⟩
 obtain ⟨s3,v3,n3,j3⟩:∃ s:Nat,(k3:Int)-(b3:Int)=(s:Int)∧s<18446744073709551616∧s+b3=a3+4503599627370494:=⟨k3-b3,by omega,by omega,by omega⟩
 obtain ⟨s4,v4,n4,j4⟩:∃ s:Nat,(k4:Int)-(b4:Int)=(s:Int)∧s<18446744073709551616∧s+b4=a4+4503599627370494:=⟨k4-b4,by omega,by omega,by omega⟩
 have hR:feR (limb5 (carr0 s0 s4) (carr1 s1 s0) (carr1 s2 s1) (carr1 s3 s2) (carr1 s4 s3)) ((val5 a0 a1 a2 a3 a4 % PP+(PP-val5 b0 b1 b2 b3 b4 % PP)) % PP):=feR_carr n0 n1 n2 n3 n4 (sub_mod (val5_sub2 j0 j1 j2 j3 j4))
 have HC:Hid (∀ W':World,Calls Tryz.prog 126 #[.int .u64 (s0:Int),.int .u64 (s1:Int),.int .u64 (s2:Int),.int .u64 (s3:Int),.int .u64 (s4:Int)] W' (RetV W' (.agg (limb5 (carr0 s0 s4) (carr1 s1 s0) (carr1 s2 s1) (carr1 s3 s2) (carr1 s4 s3))))):=yh fun W'=>carried_any _ _ _ _ _ n0 n1 n2 n3 n4 W'
 clear j0 j1 j2 j3 j4 m0 m1 m2 m3 m4
 obtain ⟨S,hS⟩:∃ S,limb5 (carr0 s0 s4) (carr1 s1 s0) (carr1 s2 s1) (carr1 s3 s2) (carr1 s4 s3)=S:=⟨_,rfl⟩
 rw [hS] at HC hR
 have iS:(Tryz.prog.info? 63).map (·.size)=some S.size:=by rw [← hS];exact limb5_info _ _ _ _ _
 have sS:(#[.int .u64 0,.int .u64 0,.int .u64 0,.int .u64 0,.int .u64 0]:Array Value).size=S.size:=by rw [← hS];rfl
 have oS:S.all (·.oneCell')=true:=by rw [← hS];exact limb5_one _ _ _ _ _
 obtain ⟨n,hn⟩:∃ n,(val5 a0 a1 a2 a3 a4 % PP+(PP-val5 b0 b1 b2 b3 b4 % PP)) % PP=n:=⟨_,rfl⟩
 rw [hn] at hR ⊢
 have HP:Hid (∀ w',Below W.heap.size W w'→RetFe feR W n (.returned (.agg S)) w'):=yh fun w' hb=>⟨S,rfl,hR,hb⟩
 clear hS hR hn
 unfold limb5
 have z0:((W.alloc (.cells #[.int .u64 (a0:Int),.int .u64 (a1:Int),.int .u64 (a2:Int),.int .u64 (a3:Int),.int .u64 (a4:Int)] 63)).alloc (.cells #[.int .u64 (b0:Int),.int .u64 (b1:Int),.int .u64 (b2:Int),.int .u64 (b3:Int),.int .u64 (b4:Int)] 63)).heap.size=W.heap.size+1+1:=by (try simp only [World.size_alloc])
 obtain ⟨W1,hW1⟩:∃ W1,((W.alloc (.cells #[.int .u64 (a0:Int),.int .u64 (a1:Int),.int .u64 (a2:Int),.int .u64 (a3:Int),.int .u64 (a4:Int)] 63)).alloc (.cells #[.int .u64 (b0:Int),.int .u64 (b1:Int),.int .u64 (b2:Int),.int .u64 (b3:Int),.int .u64 (b4:Int)] 63)).alloc (.cells #[.int .u64 0,.int .u64 0,.int .u64 0,.int .u64 0,.int .u64 0] 63)=W1:=⟨_,rfl⟩
 have hb1:Below W.heap.size W W1:=by rw [← hW1];exact zab (zab (zab (Below.refl _ _) _) _) _
 have hrow:W1.heap[W.heap.size+1+1]?=some (.cells #[.int .u64 0,.int .u64 0,.int .u64 0,.int .u64 0,.int .u64 0] 63 (0,0)):=by rw [← hW1,← z0];exact heap_alloc_new _ _
 have HB1:=yh hb1
 have HR:=yh hrow
 have HW1:=yh hW1
 clear hb1 hrow hW1 z0
 clear ha0 hb0
 clear ha1 hb1
 clear ha2 hb2
 clear ha3 hb3
 clear ha4 hb4
 go_enter Tryz.func81,Tryz.ntmps81
 go_wp2_with fail
 rw [HW1.out]
 with_reducible refine (HC.out _).mono ?_
 rintro e w2 ⟨rfl,hb2⟩
 have hr2:w2.heap[W.heap.size+1+1]?=some (.cells #[.int .u64 0,.int .u64 0,.int .u64 0,.int .u64 0,.int .u64 0] 63 (0,0)):=by rw [hb2.block _ (Array.getElem?_eq_some_iff.1 HR.out).1];exact HR.out
 have HE:Hid (Below W.heap.size W (w2.setRow (W.heap.size+1+1) S)):=yh (zac (zaa HB1.out hb2) (by omega))
 clear hb2
 go_wp2_with (refine yj S hr2 iS sS oS ?_)
 (try simp only [Exit.inBlock,Exit.then])
 refine bodyPost_ret (results_cell_row rfl _ _ (W.heap.size+1+1) _ S _ _ rfl (setRow_heap w2 _ _ _ _ _ hr2) Tryz.underlying63 rfl iS) rfl ?_
 exact HP.out _ HE.out
theorem feR_zero:feR (#[.int .u64 0,.int .u64 0,.int .u64 0,.int .u64 0,.int .u64 0]) 0:=⟨0,0,0,0,0,rfl,by decide,by decide,by decide,by decide,by decide,by decide⟩
theorem feR_info {c:Array Value} {x:Nat} (h:feR c x):(Tryz.prog.info? 63).map (·.size)=some c.size:=by
 obtain ⟨a,b,c,d,e,rfl,-⟩:=h;exact limb5_info _ _ _ _ _
theorem feR_one {c:Array Value} {x:Nat} (h:feR c x):c.all (·.oneCell')=true:=by
 obtain ⟨a,b,c,d,e,rfl,-⟩:=h;exact limb5_one _ _ _ _ _
theorem feR_size {c:Array Value} {x:Nat} (h:feR c x):(#[.int .u64 0,.int .u64 0,.int .u64 0,.int .u64 0,.int .u64 0]:Array Value).size=c.size:=by
 obtain ⟨a,b,c,d,e,rfl,-⟩:=h;rfl
set_option maxHeartbeats 1600000 in
theorem feneg_any {c:Array Value} {x:Nat} (hx:feR c x) (W:World):Calls Tryz.prog 86 #[.agg c] W (RetFe feR W ((PP-x) % PP)):=by
 have HC:Hid (∀ W':World,Calls Tryz.prog 81 #[.agg (#[.int .u64 0,.int .u64 0,.int .u64 0,.int .u64 0,.int .u64 0]),.agg c] W' (RetFe feR W' ((PP-x) % PP))):=yh fun W'=>by
  have h:=fesub_any feR_zero hx W'
  rwa [Nat.zero_add] at h
 have ic:=feR_info hx
 have oc:=feR_one hx
 have hrc:(W.alloc (.cells c 63)).heap[W.heap.size]?=some (.cells c 63 (0,0)):=heap_alloc_new _ _
 generalize (PP-x) % PP=n at *
 clear hx
 have z0:(W.alloc (.cells c 63)).heap.size=W.heap.size+1:=by (try simp only [World.size_alloc])
 obtain ⟨W1,hW1⟩:∃ W1,(W.alloc (.cells c 63)).alloc (.cells #[.int .u64 0,.int .u64 0,.int .u64 0,.int .u64 0,.int .u64 0] 63)=W1:=⟨_,rfl⟩
 have hb1:Below W.heap.size W W1:=by rw [← hW1];exact zab (zab (Below.refl _ _) _) _
 have hrow:W1.heap[W.heap.size+1]?=some (.cells #[.int .u64 0,.int .u64 0,.int .u64 0,.int .u64 0,.int .u64 0] 63 (0,0)):=by rw [← hW1,← z0];exact heap_alloc_new _ _
 have HB1:=yh hb1
 have HR:=yh hrow
 have hc1:((W.alloc (.cells c 63)).alloc (.cells #[.int .u64 0,.int .u64 0,.int .u64 0,.int .u64 0,.int .u64 0] 63)).heap[W.heap.size]?=some (.cells c 63 (0,0)):=by rw [heap_alloc_old _ _ (by rw [World.size_alloc];omega)];exact hrc
 have HW1:=yh hW1
 clear hb1 hrow hW1 z0 hrc
 go_enter Tryz.func86,Tryz.ntmps86
 go_wp2_with (refine yi hc1 Tryz.underlying63 ic ?_)
 rw [HW1.out]
 with_reducible refine (HC.out _).mono ?_
 rintro e w2 ⟨S,rfl,hR,hb2⟩
 have iS:=feR_info hR
 have sS:=feR_size hR
 have oS:=feR_one hR
 have HP:Hid (∀ w',Below W.heap.size W w'→RetFe feR W n (.returned (.agg S)) w'):=yh fun w' hb=>⟨S,rfl,hR,hb⟩
 clear hR
 have hr2:w2.heap[W.heap.size+1]?=some (.cells #[.int .u64 0,.int .u64 0,.int .u64 0,.int .u64 0,.int .u64 0] 63 (0,0)):=by rw [hb2.block _ (Array.getElem?_eq_some_iff.1 HR.out).1];exact HR.out
 have HE:Hid (Below W.heap.size W (w2.setRow (W.heap.size+1) S)):=yh (zac (zaa HB1.out hb2) (by omega))
 clear hb2
 go_wp2_with (refine yj S hr2 iS sS oS ?_)
 (try simp only [Exit.inBlock,Exit.then])
 refine bodyPost_ret (results_cell_row rfl _ _ (W.heap.size+1) _ S _ _ rfl (setRow_heap w2 _ _ _ _ _ hr2) Tryz.underlying63 rfl iS) rfl ?_
 exact HP.out _ HE.out
set_option maxHeartbeats 1600000 in
theorem fesmall_any (n:Nat) (hn:n<18446744073709551616) (W:World):Calls Tryz.prog 78 #[.int .u64 (n:Int)] W (RetFe feR W n):=by
 have a0:=and51 n hn
 have d0:(n:Int)/2251799813685248=((n/2251799813685248:Nat):Int):=by omega
 have hR:feR (limb5 (n % 2251799813685248) (n/2251799813685248) 0 0 0) n:=⟨_,_,_,_,_,rfl,by unfold L51;omega,by unfold L51;omega,by decide,by decide,by decide,by
  unfold val5 M51 M102 M153 M204 PP;omega⟩
 have HP:Hid (∀ w',Below W.heap.size W w'→RetFe feR W n (.returned (.agg #[.int .u64 ((n % 2251799813685248:Nat):Int),.int .u64 ((n/2251799813685248:Nat):Int),.int .u64 0,.int .u64 0,.int .u64 0])) w'):=yh fun w' hb=>⟨_,rfl,hR,hb⟩
 have q0:n/2251799813685248<8192:=by omega
 have r0:n % 2251799813685248<2251799813685248:=by omega
 clear hR
 generalize n/2251799813685248=u at *
 generalize n % 2251799813685248=v at *
 clear hn
 go_enter Tryz.func78,Tryz.ntmps78
 go_wp2
 refine bodyPost_ret (v:=.agg #[.int .u64 (v:Int),.int .u64 (u:Int),.int .u64 0,.int .u64 0,.int .u64 0]) (by simp [results,Tryz.results78,go_sem]) rfl (HP.out _ ?_)
 exact (Below.refl _ _).alloc (Nat.le_refl _) _
end Go.Proofs.YtkgodlcnoenmbaaGreat
namespace Go.Proofs.YtkgodlcnoenmbaaGreat
open Go.RowKit
set_option linter.unusedVariables false
set_option maxRecDepth 100000
theorem or_add13 (h q:Nat) (hq:q<8192) (hh:h*8192<18446744073709551616):bits .or .u64 ((h*8192:Nat):Int) (q:Int)=((h*8192+q:Nat):Int):=by
 have e:=u64_or_nat (h*8192) q hh (by omega)
 rw [e,show h*8192=2^13*h by rw [Nat.mul_comm],← Nat.two_pow_add_eq_or_of_lt (show q<2^13 from hq)]
theorem zaA (v:Nat):(Tryz.prog.info? 153).map (·.size)=some (wide2 v).size:=by kernel_rfl
theorem zaR (v:Nat):(wide2 v).all (·.oneCell')=true:=by simp [wide2,Value.oneCell']
set_option maxHeartbeats 1600000 in
theorem zaL (x y:Nat) (hx:x<18446744073709551616) (hy:y<18446744073709551616) (W:World) :
  Calls Tryz.prog 120 #[.int .u64 (x:Int),.int .u64 (y:Int)] W (RetV W (.agg (wide2 (x*y)))):=by
 have HM:Hid (∀ W':World,Calls Tryz.prog 147 #[.int .u64 (x:Int),.int .u64 (y:Int)] W' fun e w'=>e=.returned (.tuple #[.int .u64 ((x*y/18446744073709551616:Nat):Int),.int .u64 ((x*y % 18446744073709551616:Nat):Int)])∧w'=W'):=yh fun W'=>mul_any x y hx hy W'
 unfold wide2
 generalize x*y/18446744073709551616=h at *
 generalize x*y % 18446744073709551616=l at *
 clear hx hy
 go_enter Tryz.func120,Tryz.ntmps120
 go_wp2_with fail
 with_reducible refine (HM.out _).mono ?_
 rintro e w2 ⟨rfl,h2⟩
 rw [h2]
 clear h2 w2
 go_wp2_with fail
 refine bodyPost_ret (v:=.agg #[.int .u64 (h:Int),.int .u64 (l:Int)]) (by simp [results,Tryz.results120,go_sem]) rfl ⟨rfl,?_⟩
 exact (Below.refl _ _).alloc (Nat.le_refl _) _
set_option maxHeartbeats 1600000 in
theorem zao (v x y:Nat) (hx:x<18446744073709551616) (hy:y<18446744073709551616) (hv:v+x*y<340282366920938463463374607431768211456) (W:World) :
  Calls Tryz.prog 121 #[.agg (wide2 v),.int .u64 (x:Int),.int .u64 (y:Int)] W (RetV W (.agg (wide2 (v+x*y)))):=by
 obtain ⟨h,l,HM,e,hl,hh⟩:=mul_ex x y hx hy
 generalize x*y=p at *
 have v1:v/18446744073709551616<18446744073709551616:=by omega
 have v0:v % 18446744073709551616<18446744073709551616:=by omega
 have ve:v=v/18446744073709551616*18446744073709551616+v % 18446744073709551616:=by omega
 obtain ⟨z0,d0,s0,e0,k0⟩:=add_ex l (v % 18446744073709551616) 0 (by omega)
 obtain ⟨z1,d1,s1,e1,k1⟩:=add_ex h (v/18446744073709551616) d0 (by omega)
 have r1:(v+p)/18446744073709551616=z1:=by omega
 have r0:(v+p) % 18446744073709551616=z0:=by omega
 unfold wide2
 rw [r1,r0]
 generalize v/18446744073709551616=a1 at *
 generalize v % 18446744073709551616=a0 at *
 simp only [Int.ofNat_zero] at s0
 clear e hl hh v1 v0 ve e0 e1 k0 k1 r1 r0 hv hx hy
 go_enter Tryz.func121,Tryz.ntmps121
 go_wp2_with fail
 with_reducible refine (HM.out _).mono ?_
 rintro e w2 ⟨rfl,h2⟩
 rw [h2]
 clear h2 w2
 go_wp2_with fail
 refine bodyPost_ret (v:=.agg #[.int .u64 (z1:Int),.int .u64 (z0:Int)]) (by simp [results,Tryz.results121,go_sem]) rfl ⟨rfl,?_⟩
 exact ((Below.refl _ _).alloc (Nat.le_refl _) _).alloc (by simp) _
set_option maxHeartbeats 1600000 in
theorem limb_any (v:Nat) (W:World):Calls Tryz.prog 157 #[.agg (wide2 v)] W (RetV W (.int .u64 ((v % M51:Nat):Int))):=by
 have a0:=and51 (v % 18446744073709551616) (by omega)
 rw [show v % 18446744073709551616 % 2251799813685248=v % 2251799813685248 by omega] at a0
 unfold wide2 M51
 generalize v/18446744073709551616=h at *
 generalize v % 18446744073709551616=l at *
 generalize v % 2251799813685248=r at *
 go_enter Tryz.func157,Tryz.ntmps157
 go_wp2
 go_ret
 exact ⟨rfl,(Below.refl _ _).alloc (Nat.le_refl _) _⟩
set_option maxHeartbeats 1600000 in
theorem carry_any (v:Nat) (hv:v<41538374868278621028243970633760768) (W:World):Calls Tryz.prog 158 #[.agg (wide2 v)] W (RetV W (.int .u64 ((v/M51:Nat):Int))):=by
 have b1:v/18446744073709551616<2251799813685248:=by omega
 have b0:v % 18446744073709551616/2251799813685248<8192:=by omega
 have a0:=or_add13 (v/18446744073709551616) (v % 18446744073709551616/2251799813685248) b0 (by omega)
 rw [show v/18446744073709551616*8192+v % 18446744073709551616/2251799813685248=v/2251799813685248 by omega] at a0
 have d0:((v % 18446744073709551616:Nat):Int)/2251799813685248=((v % 18446744073709551616/2251799813685248:Nat):Int):=by omega
 have m0:((v/18446744073709551616:Nat):Int)*8192=((v/18446744073709551616*8192:Nat):Int):=by omega
 have m1:v/18446744073709551616*8192<18446744073709551616:=by omega
 unfold wide2 M51
 generalize v % 18446744073709551616/2251799813685248=q at *
 generalize v/18446744073709551616*8192=k at *
 generalize v/18446744073709551616=h at *
 generalize v % 18446744073709551616=l at *
 generalize v/2251799813685248=r at *
 clear hv
 go_enter Tryz.func158,Tryz.ntmps158
 go_wp2
 go_ret
 exact ⟨rfl,(Below.refl _ _).alloc (Nat.le_refl _) _⟩
end Go.Proofs.YtkgodlcnoenmbaaGreat
namespace Go.Proofs.YtkgodlcnoenmbaaGreat
open Go.RowKit
set_option linter.unusedVariables false
set_option maxRecDepth 100000
set_option maxHeartbeats 3200000 in
theorem narrowed_any (v0 v1 v2 v3 v4:Nat) (b0:v0<1298074214633706907132624082305024) (b1:v1<1298074214633706907132624082305024) (b2:v2<1298074214633706907132624082305024) (b3:v3<1298074214633706907132624082305024) (b4:v4<1298074214633706907132624082305024) (W:World) :
  Calls Tryz.prog 122 #[.agg (wide2 v0),.agg (wide2 v1),.agg (wide2 v2),.agg (wide2 v3),.agg (wide2 v4)] W (RetFe feR W (val5 v0 v1 v2 v3 v4 % PP)):=by
 have HL0:Hid (∀ W':World,Calls Tryz.prog 157 #[.agg (wide2 v0)] W' (RetV W' (.int .u64 ((v0 % M51:Nat):Int)))):=yh fun W'=>limb_any v0 W'
 have HQ0:Hid (∀ W':World,Calls Tryz.prog 158 #[.agg (wide2 v0)] W' (RetV W' (.int .u64 ((v0/M51:Nat):Int)))):=yh fun W'=>carry_any v0 (by omega) W'
 have r0:v0 % M51<2251799813685248:=Nat.mod_lt _ (by decide)
 have q0:v0/M51<576460752303423488:=by unfold M51;omega
 have i0:=zaA v0
 have HL1:Hid (∀ W':World,Calls Tryz.prog 157 #[.agg (wide2 v1)] W' (RetV W' (.int .u64 ((v1 % M51:Nat):Int)))):=yh fun W'=>limb_any v1 W'
 have HQ1:Hid (∀ W':World,Calls Tryz.prog 158 #[.agg (wide2 v1)] W' (RetV W' (.int .u64 ((v1/M51:Nat):Int)))):=yh fun W'=>carry_any v1 (by omega) W'
 have r1:v1 % M51<2251799813685248:=Nat.mod_lt _ (by decide)
 have q1:v1/M51<576460752303423488:=by unfold M51;omega
 have i1:=zaA v1
 have HL2:Hid (∀ W':World,Calls Tryz.prog 157 #[.agg (wide2 v2)] W' (RetV W' (.int .u64 ((v2 % M51:Nat):Int)))):=yh fun W'=>limb_any v2 W'
 have HQ2:Hid (∀ W':World,Calls Tryz.prog 158 #[.agg (wide2 v2)] W' (RetV W' (.int .u64 ((v2/M51:Nat):Int)))):=yh fun W'=>carry_any v2 (by omega) W'
 have r2:v2 % M51<2251799813685248:=Nat.mod_lt _ (by decide)
 have q2:v2/M51<576460752303423488:=by unfold M51;omega
 have i2:=zaA v2
 have HL3:Hid (∀ W':World,Calls Tryz.prog 157 #[.agg (wide2 v3)] W' (RetV W' (.int .u64 ((v3 % M51:Nat):Int)))):=yh fun W'=>limb_any v3 W'
 have HQ3:Hid (∀ W':World,Calls Tryz.prog 158 #[.agg (wide2 v3)] W' (RetV W' (.int .u64 ((v3/M51:Nat):Int)))):=yh fun W'=>carry_any v3 (by omega) W'
 have r3:v3 % M51<2251799813685248:=Nat.mod_lt _ (by decide)
 have q3:v3/M51<576460752303423488:=by unfold M51;omega
 have i3:=zaA v3
 have HL4:Hid (∀ W':World,Calls Tryz.prog 157 #[.agg (wide2 v4)] W' (RetV W' (.int .u64 ((v4 % M51:Nat):Int)))):=yh fun W'=>limb_any v4 W'
 have HQ4:Hid (∀ W':World,Calls Tryz.prog 158 #[.agg (wide2 v4)] W' (RetV W' (.int .u64 ((v4/M51:Nat):Int)))):=yh fun W'=>carry_any v4 (by omega) W'
 have r4:v4 % M51<2251799813685248:=Nat.mod_lt _ (by decide)
 have q4:v4/M51<576460752303423488:=by unfold M51;omega
 have i4:=zaA v4
 rw [← @val5_mod v0 v1 v2 v3 v4]
 generalize wide2 v0=V0 at *
 generalize v0 % M51=r0n at *
 generalize v0/M51=q0n at *
 generalize wide2 v1=V1 at *
 generalize v1 % M51=r1n at *
 generalize v1/M51=q1n at *
 generalize wide2 v2=V2 at *
 generalize v2 % M51=r2n at *
 generalize v2/M51=q2n at *
 generalize wide2 v3=V3 at *
 generalize v3 % M51=r3n at *
 generalize v3/M51=q3n at *
 generalize wide2 v4=V4 at *
 generalize v4 % M51=r4n at *
 generalize v4/M51=q4n at *
 clear b0 b1 b2 b3 b4
 obtain ⟨p4,w5,w6⟩:∃ p:Nat,IntKind.u64.wrap (19*(q4n:Int))=(p:Int)∧p=19*q4n:=⟨19*q4n,by rw [IntKind.wrap_u64];omega,rfl⟩
 obtain ⟨s0,w0,n0,j0⟩:∃ s:Nat,IntKind.u64.wrap ((r0n:Int)+(p4:Int))=(s:Int)∧s<18446744073709551616∧s=r0n+19*q4n:=⟨r0n+19*q4n,by rw [IntKind.wrap_u64];omega,by omega,rfl⟩
 obtain ⟨s1,w1,n1,j1⟩:∃ s:Nat,IntKind.u64.wrap ((r1n:Int)+(q0n:Int))=(s:Int)∧s<18446744073709551616∧s=r1n+q0n:=⟨r1n+q0n,by rw [IntKind.wrap_u64];omega,by omega,rfl⟩
 obtain ⟨s2,w2,n2,j2⟩:∃ s:Nat,IntKind.u64.wrap ((r2n:Int)+(q1n:Int))=(s:Int)∧s<18446744073709551616∧s=r2n+q1n:=⟨r2n+q1n,by rw [IntKind.wrap_u64];omega,by omega,rfl⟩
 obtain ⟨s3,w3,n3,j3⟩:∃ s:Nat,IntKind.u64.wrap ((r3n:Int)+(q2n:Int))=(s:Int)∧s<18446744073709551616∧s=r3n+q2n:=⟨r3n+q2n,by rw [IntKind.wrap_u64];omega,by omega,rfl⟩
 obtain ⟨s4,w4,n4,j4⟩:∃ s:Nat,IntKind.u64.wrap ((r4n:Int)+(q3n:Int))=(s:Int)∧s<18446744073709551616∧s=r4n+q3n:=⟨r4n+q3n,by rw [IntKind.wrap_u64];omega,by omega,rfl⟩
 rw [← j0,← j1,← j2,← j3,← j4]
 have hR:feR (limb5 (carr0 s0 s4) (carr1 s1 s0) (carr1 s2 s1) (carr1 s3 s2) (carr1 s4 s3)) (val5 s0 s1 s2 s3 s4 % PP):=feR_carr n0 n1 n2 n3 n4 rfl
 have HC:Hid (∀ W':World,Calls Tryz.prog 126 #[.int .u64 (s0:Int),.int .u64 (s1:Int),.int .u64 (s2:Int),.int .u64 (s3:Int),.int .u64 (s4:Int)] W' (RetV W' (.agg (limb5 (carr0 s0 s4) (carr1 s1 s0) (carr1 s2 s1) (carr1 s3 s2) (carr1 s4 s3))))):=yh fun W'=>carried_any _ _ _ _ _ n0 n1 n2 n3 n4 W'
 clear j0 j1 j2 j3 j4 w6
 have x0:IntKind.u64.wrap (s0:Int)=(s0:Int):=by rw [IntKind.wrap_u64];omega
 have x1:IntKind.u64.wrap (s1:Int)=(s1:Int):=by rw [IntKind.wrap_u64];omega
 have x2:IntKind.u64.wrap (s2:Int)=(s2:Int):=by rw [IntKind.wrap_u64];omega
 have x3:IntKind.u64.wrap (s3:Int)=(s3:Int):=by rw [IntKind.wrap_u64];omega
 have x4:IntKind.u64.wrap (s4:Int)=(s4:Int):=by rw [IntKind.wrap_u64];omega
 obtain ⟨S,hS⟩:∃ S,limb5 (carr0 s0 s4) (carr1 s1 s0) (carr1 s2 s1) (carr1 s3 s2) (carr1 s4 s3)=S:=⟨_,rfl⟩
 rw [hS] at HC hR
 have iS:(Tryz.prog.info? 63).map (·.size)=some S.size:=by rw [← hS];exact limb5_info _ _ _ _ _
 have sS:(#[.int .u64 0,.int .u64 0,.int .u64 0,.int .u64 0,.int .u64 0]:Array Value).size=S.size:=by rw [← hS];rfl
 have oS:S.all (·.oneCell')=true:=by rw [← hS];exact limb5_one _ _ _ _ _
 obtain ⟨n,hn⟩:∃ n,val5 s0 s1 s2 s3 s4 % PP=n:=⟨_,rfl⟩
 rw [hn] at hR ⊢
 have HP:Hid (∀ w',Below W.heap.size W w'→RetFe feR W n (.returned (.agg S)) w'):=yh fun w' hb=>⟨S,rfl,hR,hb⟩
 clear hS hR hn
 clear r0 r1 r2 r3 r4 q0 q1 q2 q3 q4 n0 n1 n2 n3 n4
 have hrr:RowsW ((((((W.alloc (.cells V0 153)).alloc (.cells V1 153)).alloc (.cells V2 153)).alloc (.cells V3 153)).alloc (.cells V4 153)).alloc (.cells #[.int .u64 0,.int .u64 0,.int .u64 0,.int .u64 0,.int .u64 0] 63)) [(W.heap.size+1+1+1+1+1,#[.int .u64 0,.int .u64 0,.int .u64 0,.int .u64 0,.int .u64 0],63),(W.heap.size+1+1+1+1,V4,153),(W.heap.size+1+1+1,V3,153),(W.heap.size+1+1,V2,153),(W.heap.size+1,V1,153),(W.heap.size,V0,153)]:=by have h:=(RowsW.box (RowsW.box (RowsW.box (RowsW.box (RowsW.box (RowsW.box (RowsW.nil W) V0 153) V1 153) V2 153) V3 153) V4 153) #[.int .u64 0,.int .u64 0,.int .u64 0,.int .u64 0,.int .u64 0] 63);simp only [World.size_alloc] at h;exact h
 obtain ⟨W1,hW1⟩:∃ W1,((((((W.alloc (.cells V0 153)).alloc (.cells V1 153)).alloc (.cells V2 153)).alloc (.cells V3 153)).alloc (.cells V4 153)).alloc (.cells #[.int .u64 0,.int .u64 0,.int .u64 0,.int .u64 0,.int .u64 0] 63))=W1:=⟨_,rfl⟩
 rw [hW1] at hrr
 have hb1:Below W.heap.size W W1:=by rw [← hW1];exact zab (zab (zab (zab (zab (zab (Below.refl _ _) _) _) _) _) _) _
 have HR:=yh hrr
 have HB1:=yh hb1
 have HW1:=yh hW1
 clear hrr hb1 hW1
 go_enter Tryz.func122,Tryz.ntmps122
 go_upto_region 1 with fail
 rw [HW1.out]
 refine wp_region_noPanic ?_
 refine zah (S:=fun W=>Below W1.heap.size W1 W) 26 (by kernel_rfl) ⟨by kernel_rfl,by kernel_rfl,by kernel_rfl,by kernel_rfl⟩ (by exact (Below.refl _ _).drew) (fun hT inv hS=>?_)
 refine' yT 0 hT inv hS (fun inv=>?_) (hy:=fun W hSW=>zad rfl rfl (HR.out.below hSW).tail.tail.tail.tail.tail.head Tryz.underlying153 rfl i0)
 refine' yT 2 hT inv hS (fun inv=>?_) (hy:=fun W hSW=>zad rfl rfl (HR.out.below hSW).tail.head Tryz.underlying153 rfl i4)
 refine' yT 6 hT inv hS (fun inv=>?_) (hy:=fun W hSW=>zad rfl rfl (HR.out.below hSW).tail.tail.tail.tail.head Tryz.underlying153 rfl i1)
 refine' yT 8 hT inv hS (fun inv=>?_) (hy:=fun W hSW=>zad rfl rfl (HR.out.below hSW).tail.tail.tail.tail.tail.head Tryz.underlying153 rfl i0)
 refine' yT 11 hT inv hS (fun inv=>?_) (hy:=fun W hSW=>zad rfl rfl (HR.out.below hSW).tail.tail.tail.head Tryz.underlying153 rfl i2)
 refine' yT 13 hT inv hS (fun inv=>?_) (hy:=fun W hSW=>zad rfl rfl (HR.out.below hSW).tail.tail.tail.tail.head Tryz.underlying153 rfl i1)
 refine' yT 16 hT inv hS (fun inv=>?_) (hy:=fun W hSW=>zad rfl rfl (HR.out.below hSW).tail.tail.head Tryz.underlying153 rfl i3)
 refine' yT 18 hT inv hS (fun inv=>?_) (hy:=fun W hSW=>zad rfl rfl (HR.out.below hSW).tail.tail.tail.head Tryz.underlying153 rfl i2)
 refine' yT 21 hT inv hS (fun inv=>?_) (hy:=fun W hSW=>zad rfl rfl (HR.out.below hSW).tail.head Tryz.underlying153 rfl i4)
 refine' yT 23 hT inv hS (fun inv=>?_) (hy:=fun W hSW=>zad rfl rfl (HR.out.below hSW).tail.tail.head Tryz.underlying153 rfl i3)
 refine xT 1 inv (fun K hK=>?_)
 go_simp
 with_reducible refine (HL0.out _).mono ?_
 rintro e u1 ⟨rfl,hb1⟩
 have kb1:=zaa hS hb1
 clear hS hb1
 refine hK.out _ _ (by exact kb1) (fun inv hS=>?_)
 clear hK K
 refine xT 3 inv (fun K hK=>?_)
 go_simp
 with_reducible refine (HQ4.out _).mono ?_
 rintro e u2 ⟨rfl,hb2⟩
 have kb2:=zaa hS hb2
 clear hS hb2
 refine hK.out _ _ (by exact kb2) (fun inv hS=>?_)
 clear hK K
 refine' yT 4 hT inv hS (fun inv=>?_)
 refine' yT 5 hT inv hS (fun inv=>?_)
 refine xT 7 inv (fun K hK=>?_)
 go_simp
 with_reducible refine (HL1.out _).mono ?_
 rintro e u3 ⟨rfl,hb3⟩
 have kb3:=zaa hS hb3
 clear hS hb3
 refine hK.out _ _ (by exact kb3) (fun inv hS=>?_)
 clear hK K
 refine xT 9 inv (fun K hK=>?_)
 go_simp
 with_reducible refine (HQ0.out _).mono ?_
 rintro e u4 ⟨rfl,hb4⟩
 have kb4:=zaa hS hb4
 clear hS hb4
 refine hK.out _ _ (by exact kb4) (fun inv hS=>?_)
 clear hK K
 refine' yT 10 hT inv hS (fun inv=>?_)
 refine xT 12 inv (fun K hK=>?_)
 go_simp
 with_reducible refine (HL2.out _).mono ?_
 rintro e u5 ⟨rfl,hb5⟩
 have kb5:=zaa hS hb5
 clear hS hb5
 refine hK.out _ _ (by exact kb5) (fun inv hS=>?_)
 clear hK K
 refine xT 14 inv (fun K hK=>?_)
 go_simp
 with_reducible refine (HQ1.out _).mono ?_
 rintro e u6 ⟨rfl,hb6⟩
 have kb6:=zaa hS hb6
 clear hS hb6
 refine hK.out _ _ (by exact kb6) (fun inv hS=>?_)
 clear hK K
 refine' yT 15 hT inv hS (fun inv=>?_)
 refine xT 17 inv (fun K hK=>?_)
 go_simp
 with_reducible refine (HL3.out _).mono ?_
 rintro e u7 ⟨rfl,hb7⟩
 have kb7:=zaa hS hb7
 clear hS hb7
 refine hK.out _ _ (by exact kb7) (fun inv hS=>?_)
 clear hK K
 refine xT 19 inv (fun K hK=>?_)
 go_simp
 with_reducible refine (HQ2.out _).mono ?_
 rintro e u8 ⟨rfl,hb8⟩
 have kb8:=zaa hS hb8
 clear hS hb8
 refine hK.out _ _ (by exact kb8) (fun inv hS=>?_)
 clear hK K
 refine' yT 20 hT inv hS (fun inv=>?_)
 refine xT 22 inv (fun K hK=>?_)
 go_simp
 with_reducible refine (HL4.out _).mono ?_
 rintro e u9 ⟨rfl,hb9⟩
 have kb9:=zaa hS hb9
 clear hS hb9
 refine hK.out _ _ (by exact kb9) (fun inv hS=>?_)
 clear hK K
 refine xT 24 inv (fun K hK=>?_)
 go_simp
 with_reducible refine (HQ3.out _).mono ?_
 rintro e u10 ⟨rfl,hb10⟩
 have kb10:=zaa hS hb10
 clear hS hb10
 refine hK.out _ _ (by exact kb10) (fun inv hS=>?_)
 clear hK K
 refine' yT 25 hT inv hS (fun inv=>?_)
 refine zaD (by kernel_rfl) ?_
 simp only [List.drop_succ_cons,List.drop_zero]
 clear hS
 (try simp only [Act.put])
 have HR2:=yh (HR.out.below kb10)
 have HB2:=yh (zaa HB1.out kb10)
 clear kb1 kb2 kb3 kb4 kb5 kb6 kb7 kb8 kb9 kb10
 go_wp2_with fail
 with_reducible refine (HC.out _).mono ?_
 rintro e w2 ⟨rfl,hb2⟩
 have hr2:=(HR2.out.below hb2).head
 have HE:Hid (Below W.heap.size W (w2.setRow (W.heap.size+1+1+1+1+1) S)):=yh (zac (zaa HB2.out hb2) (by omega))
 clear hb2
 go_wp2_with (refine yj S hr2 iS sS oS ?_)
 refine NoPanic.normal ?_
 go_wp2_with fail
 (try simp only [Exit.inBlock,Exit.then])
 refine bodyPost_ret (results_cell_row rfl _ _ (W.heap.size+1+1+1+1+1) _ S _ _ rfl (setRow_heap w2 _ _ _ _ _ hr2) Tryz.underlying63 rfl iS) rfl ?_
 exact HP.out _ HE.out
end Go.Proofs.YtkgodlcnoenmbaaGreat
namespace Go.Proofs.YtkgodlcnoenmbaaGreat
open Go.RowKit
set_option linter.unusedVariables false
set_option maxRecDepth 100000
theorem pb {x y:Nat} (hx:x<L51) (hy:y<L51):x*y≤5070602402093504723173315706881:=Nat.le_trans (Nat.mul_le_mul (Nat.le_of_lt_succ hx) (Nat.le_of_lt_succ hy)) (by decide)
theorem pb19 {x y f:Nat} (hx:x<L51) (hy:f<42784196465000448):x*f≤96341445639776630272689649483777:=Nat.le_trans (Nat.mul_le_mul (Nat.le_of_lt_succ hx) (Nat.le_of_lt_succ hy)) (by decide)
set_option maxHeartbeats 6400000 in
theorem femul_any {c d:Array Value} {x y:Nat} (hx:feR c x) (hy:feR d y) (W:World):Calls Tryz.prog 83 #[.agg c,.agg d] W (RetFe feR W ((x*y) % PP)):=by
 obtain ⟨a0,a1,a2,a3,a4,rfl,ha0,ha1,ha2,ha3,ha4,rfl⟩:=hx
 obtain ⟨b0,b1,b2,b3,b4,rfl,hb0,hb1,hb2,hb3,hb4,rfl⟩:=hy
 rw [← val5_mul]
 obtain ⟨f1,w1,hf1,e1⟩:∃ f:Nat,IntKind.u64.wrap (19*(b1:Int))=(f:Int)∧f<42784196465000448∧19*b1=f:=⟨19*b1,by rw [IntKind.wrap_u64];unfold L51 at hb1;omega,by unfold L51 at hb1;omega,rfl⟩
 obtain ⟨f2,w2,hf2,e2⟩:∃ f:Nat,IntKind.u64.wrap (19*(b2:Int))=(f:Int)∧f<42784196465000448∧19*b2=f:=⟨19*b2,by rw [IntKind.wrap_u64];unfold L51 at hb2;omega,by unfold L51 at hb2;omega,rfl⟩
 obtain ⟨f3,w3,hf3,e3⟩:∃ f:Nat,IntKind.u64.wrap (19*(b3:Int))=(f:Int)∧f<42784196465000448∧19*b3=f:=⟨19*b3,by rw [IntKind.wrap_u64];unfold L51 at hb3;omega,by unfold L51 at hb3;omega,rfl⟩
 obtain ⟨f4,w4,hf4,e4⟩:∃ f:Nat,IntKind.u64.wrap (19*(b4:Int))=(f:Int)∧f<42784196465000448∧19*b4=f:=⟨19*b4,by rw [IntKind.wrap_u64];unfold L51 at hb4;omega,by unfold L51 at hb4;omega,rfl⟩
 rw [e1,e2,e3,e4]
 have B0:a0*b0+a1*f4+a2*f3+a3*f2+a4*f1<1298074214633706907132624082305024:=by
  have p0:=pb (y:=b0) (x:=a0) ha0 hb0
  have p1:=pb19 (f:=f4) (y:=0) (x:=a1) ha1 hf4
  have p2:=pb19 (f:=f3) (y:=0) (x:=a2) ha2 hf3
  have p3:=pb19 (f:=f2) (y:=0) (x:=a3) ha3 hf2
  have p4:=pb19 (f:=f1) (y:=0) (x:=a4) ha4 hf1
  omega
 have B1:a0*b1+a1*b0+a2*f4+a3*f3+a4*f2<1298074214633706907132624082305024:=by
  have p0:=pb (y:=b1) (x:=a0) ha0 hb1
  have p1:=pb (y:=b0) (x:=a1) ha1 hb0
  have p2:=pb19 (f:=f4) (y:=0) (x:=a2) ha2 hf4
  have p3:=pb19 (f:=f3) (y:=0) (x:=a3) ha3 hf3
  have p4:=pb19 (f:=f2) (y:=0) (x:=a4) ha4 hf2
  omega
 have B2:a0*b2+a1*b1+a2*b0+a3*f4+a4*f3<1298074214633706907132624082305024:=by
  have p0:=pb (y:=b2) (x:=a0) ha0 hb2
  have p1:=pb (y:=b1) (x:=a1) ha1 hb1
  have p2:=pb (y:=b0) (x:=a2) ha2 hb0
  have p3:=pb19 (f:=f4) (y:=0) (x:=a3) ha3 hf4
  have p4:=pb19 (f:=f3) (y:=0) (x:=a4) ha4 hf3
  omega
 have B3:a0*b3+a1*b2+a2*b1+a3*b0+a4*f4<1298074214633706907132624082305024:=by
  have p0:=pb (y:=b3) (x:=a0) ha0 hb3
  have p1:=pb (y:=b2) (x:=a1) ha1 hb2
  have p2:=pb (y:=b1) (x:=a2) ha2 hb1
  have p3:=pb (y:=b0) (x:=a3) ha3 hb0
  have p4:=pb19 (f:=f4) (y:=0) (x:=a4) ha4 hf4
  omega
 have B4:a0*b4+a1*b3+a2*b2+a3*b1+a4*b0<1298074214633706907132624082305024:=by
  have p0:=pb (y:=b4) (x:=a0) ha0 hb4
  have p1:=pb (y:=b3) (x:=a1) ha1 hb3
  have p2:=pb (y:=b2) (x:=a2) ha2 hb2
  have p3:=pb (y:=b1) (x:=a3) ha3 hb1
  have p4:=pb (y:=b0) (x:=a4) ha4 hb0
  omega
 have HN:Hid (∀ W':World,Calls Tryz.prog 122 #[.agg (wide2 (a0*b0+a1*f4+a2*f3+a3*f2+a4*f1)),.agg (wide2 (a0*b1+a1*b0+a2*f4+a3*f3+a4*f2)),.agg (wide2 (a0*b2+a1*b1+a2*b0+a3*f4+a4*f3)),.agg (wide2 (a0*b3+a1*b2+a2*b1+a3*b0+a4*f4)),.agg (wide2 (a0*b4+a1*b3+a2*b2+a3*b1+a4*b0))] W' (RetFe feR W' (val5 (a0*b0+a1*f4+a2*f3+a3*f2+a4*f1) (a0*b1+a1*b0+a2*f4+a3*f3+a4*f2) (a0*b2+a1*b1+a2*b0+a3*f4+a4*f3) (a0*b3+a1*b2+a2*b1+a3*b0+a4*f4) (a0*b4+a1*b3+a2*b2+a3*b1+a4*b0) % PP))):=yh fun W'=>narrowed_any _ _ _ _ _ B0 B1 B2 B3 B4 W'
 unfold L51 at *
 have H0_0:Hid (∀ W':World,Calls Tryz.prog 120 #[.int .u64 (a0:Int),.int .u64 (b0:Int)] W' (RetV W' (.agg (wide2 (a0*b0))))):=yh fun W'=>zaL a0 b0 (by omega) (by omega) W'
 have H0_1:Hid (∀ W':World,Calls Tryz.prog 121 #[.agg (wide2 (a0*b0)),.int .u64 (a1:Int),.int .u64 (f4:Int)] W' (RetV W' (.agg (wide2 (a0*b0+a1*f4))))):=yh fun W'=>zao (a0*b0) a1 f4 (by omega) (by omega) (by have:=B0;omega) W'
 have H0_2:Hid (∀ W':World,Calls Tryz.prog 121 #[.agg (wide2 (a0*b0+a1*f4)),.int .u64 (a2:Int),.int .u64 (f3:Int)] W' (RetV W' (.agg (wide2 (a0*b0+a1*f4+a2*f3))))):=yh fun W'=>zao (a0*b0+a1*f4) a2 f3 (by omega) (by omega) (by have:=B0;omega) W'
 have H0_3:Hid (∀ W':World,Calls Tryz.prog 121 #[.agg (wide2 (a0*b0+a1*f4+a2*f3)),.int .u64 (a3:Int),.int .u64 (f2:Int)] W' (RetV W' (.agg (wide2 (a0*b0+a1*f4+a2*f3+a3*f2))))):=yh fun W'=>zao (a0*b0+a1*f4+a2*f3) a3 f2 (by omega) (by omega) (by have:=B0;omega) W'
 have H0_4:Hid (∀ W':World,Calls Tryz.prog 121 #[.agg (wide2 (a0*b0+a1*f4+a2*f3+a3*f2)),.int .u64 (a4:Int),.int .u64 (f1:Int)] W' (RetV W' (.agg (wide2 (a0*b0+a1*f4+a2*f3+a3*f2+a4*f1))))):=yh fun W'=>zao (a0*b0+a1*f4+a2*f3+a3*f2) a4 f1 (by omega) (by omega) (by have:=B0;omega) W'
 have H1_0:Hid (∀ W':World,Calls Tryz.prog 120 #[.int .u64 (a0:Int),.int .u64 (b1:Int)] W' (RetV W' (.agg (wide2 (a0*b1))))):=yh fun W'=>zaL a0 b1 (by omega) (by omega) W'
 have H1_1:Hid (∀ W':World,Calls Tryz.prog 121 #[.agg (wide2 (a0*b1)),.int .u64 (a1:Int),.int .u64 (b0:Int)] W' (RetV W' (.agg (wide2 (a0*b1+a1*b0))))):=yh fun W'=>zao (a0*b1) a1 b0 (by omega) (by omega) (by have:=B1;omega) W'
 have H1_2:Hid (∀ W':World,Calls Tryz.prog 121 #[.agg (wide2 (a0*b1+a1*b0)),.int .u64 (a2:Int),.int .u64 (f4:Int)] W' (RetV W' (.agg (wide2 (a0*b1+a1*b0+a2*f4))))):=yh fun W'=>zao (a0*b1+a1*b0) a2 f4 (by omega) (by omega) (by have:=B1;omega) W'
 have H1_3:Hid (∀ W':World,Calls Tryz.prog 121 #[.agg (wide2 (a0*b1+a1*b0+a2*f4)),.int .u64 (a3:Int),.int .u64 (f3:Int)] W' (RetV W' (.agg (wide2 (a0*b1+a1*b0+a2*f4+a3*f3))))):=yh fun W'=>zao (a0*b1+a1*b0+a2*f4) a3 f3 (by omega) (by omega) (by have:=B1;omega) W'
 have H1_4:Hid (∀ W':World,Calls Tryz.prog 121 #[.agg (wide2 (a0*b1+a1*b0+a2*f4+a3*f3)),.int .u64 (a4:Int),.int .u64 (f2:Int)] W' (RetV W' (.agg (wide2 (a0*b1+a1*b0+a2*f4+a3*f3+a4*f2))))):=yh fun W'=>zao (a0*b1+a1*b0+a2*f4+a3*f3) a4 f2 (by omega) (by omega) (by have:=B1;omega) W'
 have H2_0:Hid (∀ W':World,Calls Tryz.prog 120 #[.int .u64 (a0:Int),.int .u64 (b2:Int)] W' (RetV W' (.agg (wide2 (a0*b2))))):=yh fun W'=>zaL a0 b2 (by omega) (by omega) W'
 have H2_1:Hid (∀ W':World,Calls Tryz.prog 121 #[.agg (wide2 (a0*b2)),.int .u64 (a1:Int),.int .u64 (b1:Int)] W' (RetV W' (.agg (wide2 (a0*b2+a1*b1))))):=yh fun W'=>zao (a0*b2) a1 b1 (by omega) (by omega) (by have:=B2;omega) W'
 have H2_2:Hid (∀ W':World,Calls Tryz.prog 121 #[.agg (wide2 (a0*b2+a1*b1)),.int .u64 (a2:Int),.int .u64 (b0:Int)] W' (RetV W' (.agg (wide2 (a0*b2+a1*b1+a2*b0))))):=yh fun W'=>zao (a0*b2+a1*b1) a2 b0 (by omega) (by omega) (by have:=B2;omega) W'
 have H2_3:Hid (∀ W':World,Calls Tryz.prog 121 #[.agg (wide2 (a0*b2+a1*b1+a2*b0)),.int .u64 (a3:Int),.int .u64 (f4:Int)] W' (RetV W' (.agg (wide2 (a0*b2+a1*b1+a2*b0+a3*f4))))):=yh fun W'=>zao (a0*b2+a1*b1+a2*b0) a3 f4 (by omega) (by omega) (by have:=B2;omega) W'
 have H2_4:Hid (∀ W':World,Calls Tryz.prog 121 #[.agg (wide2 (a0*b2+a1*b1+a2*b0+a3*f4)),.int .u64 (a4:Int),.int .u64 (f3:Int)] W' (RetV W' (.agg (wide2 (a0*b2+a1*b1+a2*b0+a3*f4+a4*f3))))):=yh fun W'=>zao (a0*b2+a1*b1+a2*b0+a3*f4) a4 f3 (by omega) (by omega) (by have:=B2;omega) W'
 have H3_0:Hid (∀ W':World,Calls Tryz.prog 120 #[.int .u64 (a0:Int),.int .u64 (b3:Int)] W' (RetV W' (.agg (wide2 (a0*b3))))):=yh fun W'=>zaL a0 b3 (by omega) (by omega) W'
 have H3_1:Hid (∀ W':World,Calls Tryz.prog 121 #[.agg (wide2 (a0*b3)),.int .u64 (a1:Int),.int .u64 (b2:Int)] W' (RetV W' (.agg (wide2 (a0*b3+a1*b2))))):=yh fun W'=>zao (a0*b3) a1 b2 (by omega) (by omega) (by have:=B3;omega) W'
 have H3_2:Hid (∀ W':World,Calls Tryz.prog 121 #[.agg (wide2 (a0*b3+a1*b2)),.int .u64 (a2:Int),.int .u64 (b1:Int)] W' (RetV W' (.agg (wide2 (a0*b3+a1*b2+a2*b1))))):=yh fun W'=>zao (a0*b3+a1*b2) a2 b1 (by omega) (by omega) (by have:=B3;omega) W'
 have H3_3:Hid (∀ W':World,Calls Tryz.prog 121 #[.agg (wide2 (a0*b3+a1*b2+a2*b1)),.int .u64 (a3:Int),.int .u64 (b0:Int)] W' (RetV W' (.agg (wide2 (a0*b3+a1*b2+a2*b1+a3*b0))))):=yh fun W'=>zao (a0*b3+a1*b2+a2*b1) a3 b0 (by omega) (by omega) (by have:=B3;omega) W'
 have H3_4:Hid (∀ W':World,Calls Tryz.prog 121 #[.agg (wide2 (a0*b3+a1*b2+a2*b1+a3*b0)),.int .u64 (a4:Int),.int .u64 (f4:Int)] W' (RetV W' (.agg (wide2 (a0*b3+a1*b2+a2*b1+a3*b0+a4*f4))))):=yh fun W'=>zao (a0*b3+a1*b2+a2*b1+a3*b0) a4 f4 (by omega) (by omega) (by have:=B3;omega) W'
 have H4_0:Hid (∀ W':World,Calls Tryz.prog 120 #[.int .u64 (a0:Int),.int .u64 (b4:Int)] W' (RetV W' (.agg (wide2 (a0*b4))))):=yh fun W'=>zaL a0 b4 (by omega) (by omega) W'
 have H4_1:Hid (∀ W':World,Calls Tryz.prog 121 #[.agg (wide2 (a0*b4)),.int .u64 (a1:Int),.int .u64 (b3:Int)] W' (RetV W' (.agg (wide2 (a0*b4+a1*b3))))):=yh fun W'=>zao (a0*b4) a1 b3 (by omega) (by omega) (by have:=B4;omega) W'
 have H4_2:Hid (∀ W':World,Calls Tryz.prog 121 #[.agg (wide2 (a0*b4+a1*b3)),.int .u64 (a2:Int),.int .u64 (b2:Int)] W' (RetV W' (.agg (wide2 (a0*b4+a1*b3+a2*b2))))):=yh fun W'=>zao (a0*b4+a1*b3) a2 b2 (by omega) (by omega) (by have:=B4;omega) W'
 have H4_3:Hid (∀ W':World,Calls Tryz.prog 121 #[.agg (wide2 (a0*b4+a1*b3+a2*b2)),.int .u64 (a3:Int),.int .u64 (b1:Int)] W' (RetV W' (.agg (wide2 (a0*b4+a1*b3+a2*b2+a3*b1))))):=yh fun W'=>zao (a0*b4+a1*b3+a2*b2) a3 b1 (by omega) (by omega) (by have:=B4;omega) W'
 have H4_4:Hid (∀ W':World,Calls Tryz.prog 121 #[.agg (wide2 (a0*b4+a1*b3+a2*b2+a3*b1)),.int .u64 (a4:Int),.int .u64 (b0:Int)] W' (RetV W' (.agg (wide2 (a0*b4+a1*b3+a2*b2+a3*b1+a4*b0))))):=yh fun W'=>zao (a0*b4+a1*b3+a2*b2+a3*b1) a4 b0 (by omega) (by omega) (by have:=B4;omega) W'
 generalize val5 (a0*b0+a1*f4+a2*f3+a3*f2+a4*f1) (a0*b1+a1*b0+a2*f4+a3*f3+a4*f2) (a0*b2+a1*b1+a2*b0+a3*f4+a4*f3) (a0*b3+a1*b2+a2*b1+a3*b0+a4*f4) (a0*b4+a1*b3+a2*b2+a3*b1+a4*b0) % PP=nn at *
 clear B0 B1 B2 B3 B4 e1 e2 e3 e4
 generalize wide2 (a0*b0)=U0_0 at *
 generalize wide2 (a0*b0+a1*f4)=U0_1 at *
 generalize wide2 (a0*b0+a1*f4+a2*f3)=U0_2 at *
 generalize wide2 (a0*b0+a1*f4+a2*f3+a3*f2)=U0_3 at *
 have i0:=zaA (a0*b0+a1*f4+a2*f3+a3*f2+a4*f1)
 have on0:=zaR (a0*b0+a1*f4+a2*f3+a3*f2+a4*f1)
 have sz0:(#[.int .u64 0,.int .u64 0]:Array Value).size=(wide2 (a0*b0+a1*f4+a2*f3+a3*f2+a4*f1)).size:=rfl
 generalize wide2 (a0*b0+a1*f4+a2*f3+a3*f2+a4*f1)=V0 at *
 generalize wide2 (a0*b1)=U1_0 at *
 generalize wide2 (a0*b1+a1*b0)=U1_1 at *
 generalize wide2 (a0*b1+a1*b0+a2*f4)=U1_2 at *
 generalize wide2 (a0*b1+a1*b0+a2*f4+a3*f3)=U1_3 at *
 have i1:=zaA (a0*b1+a1*b0+a2*f4+a3*f3+a4*f2)
 have on1:=zaR (a0*b1+a1*b0+a2*f4+a3*f3+a4*f2)
 have sz1:(#[.int .u64 0,.int .u64 0]:Array Value).size=(wide2 (a0*b1+a1*b0+a2*f4+a3*f3+a4*f2)).size:=rfl
 generalize wide2 (a0*b1+a1*b0+a2*f4+a3*f3+a4*f2)=V1 at *
 generalize wide2 (a0*b2)=U2_0 at *
 generalize wide2 (a0*b2+a1*b1)=U2_1 at *
 generalize wide2 (a0*b2+a1*b1+a2*b0)=U2_2 at *
 generalize wide2 (a0*b2+a1*b1+a2*b0+a3*f4)=U2_3 at *
 have i2:=zaA (a0*b2+a1*b1+a2*b0+a3*f4+a4*f3)
 have on2:=zaR (a0*b2+a1*b1+a2*b0+a3*f4+a4*f3)
 have sz2:(#[.int .u64 0,.int .u64 0]:Array Value).size=(wide2 (a0*b2+a1*b1+a2*b0+a3*f4+a4*f3)).size:=rfl
 generalize wide2 (a0*b2+a1*b1+a2*b0+a3*f4+a4*f3)=V2 at *
 generalize wide2 (a0*b3)=U3_0 at *
 generalize wide2 (a0*b3+a1*b2)=U3_1 at *
 generalize wide2 (a0*b3+a1*b2+a2*b1)=U3_2 at *
 generalize wide2 (a0*b3+a1*b2+a2*b1+a3*b0)=U3_3 at *
 have i3:=zaA (a0*b3+a1*b2+a2*b1+a3*b0+a4*f4)
 have on3:=zaR (a0*b3+a1*b2+a2*b1+a3*b0+a4*f4)
 have sz3:(#[.int .u64 0,.int .u64 0]:Array Value).size=(wide2 (a0*b3+a1*b2+a2*b1+a3*b0+a4*f4)).size:=rfl
 generalize wide2 (a0*b3+a1*b2+a2*b1+a3*b0+a4*f4)=V3 at *
 generalize wide2 (a0*b4)=U4_0 at *
 generalize wide2 (a0*b4+a1*b3)=U4_1 at *
 generalize wide2 (a0*b4+a1*b3+a2*b2)=U4_2 at *
 generalize wide2 (a0*b4+a1*b3+a2*b2+a3*b1)=U4_3 at *
 have i4:=zaA (a0*b4+a1*b3+a2*b2+a3*b1+a4*b0)
 have on4:=zaR (a0*b4+a1*b3+a2*b2+a3*b1+a4*b0)
 have sz4:(#[.int .u64 0,.int .u64 0]:Array Value).size=(wide2 (a0*b4+a1*b3+a2*b2+a3*b1+a4*b0)).size:=rfl
 generalize wide2 (a0*b4+a1*b3+a2*b2+a3*b1+a4*b0)=V4 at *
 have z1:IntKind.u64.wrap (f1:Int)=(f1:Int):=by rw [IntKind.wrap_u64];omega
 have z2:IntKind.u64.wrap (f2:Int)=(f2:Int):=by rw [IntKind.wrap_u64];omega
 have z3:IntKind.u64.wrap (f3:Int)=(f3:Int):=by rw [IntKind.wrap_u64];omega
 have z4:IntKind.u64.wrap (f4:Int)=(f4:Int):=by rw [IntKind.wrap_u64];omega
 clear ha0 hb0 ha1 hb1 ha2 hb2 ha3 hb3 ha4 hb4 hf1 hf2 hf3 hf4
 have hzw:∀ u,(zeroValue 153).run Tryz.prog u=.ok (.agg #[.int .u64 0,.int .u64 0]) u:=fun u=>zero_arr 153 #[.int .u64 0,.int .u64 0] 2 (by kernel_rfl) u
 obtain ⟨La,hLa⟩:∃ L,limb5 a0 a1 a2 a3 a4=L:=⟨_,rfl⟩
 rw [hLa]
 have HLa:Hid (La=limb5 a0 a1 a2 a3 a4):=yh hLa.symm
 clear hLa
 obtain ⟨Lb,hLb⟩:∃ L,limb5 b0 b1 b2 b3 b4=L:=⟨_,rfl⟩
 rw [hLb]
 have HLb:Hid (Lb=limb5 b0 b1 b2 b3 b4):=yh hLb.symm
 clear hLb
 have hrr:RowsW (((W.alloc (.cells La 63)).alloc (.cells Lb 63)).alloc (.cells #[.int .u64 0,.int .u64 0,.int .u64 0,.int .u64 0,.int .u64 0] 63)) [(W.heap.size+1+1,#[.int .u64 0,.int .u64 0,.int .u64 0,.int .u64 0,.int .u64 0],63),(W.heap.size+1,Lb,63),(W.heap.size,La,63)]:=by have h:=(RowsW.box (RowsW.box (RowsW.box (RowsW.nil W) La 63) Lb 63) #[.int .u64 0,.int .u64 0,.int .u64 0,.int .u64 0,.int .u64 0] 63);simp only [World.size_alloc] at h;exact h
 obtain ⟨W1,hW1⟩:∃ W1,(((W.alloc (.cells La 63)).alloc (.cells Lb 63)).alloc (.cells #[.int .u64 0,.int .u64 0,.int .u64 0,.int .u64 0,.int .u64 0] 63))=W1:=⟨_,rfl⟩
 rw [hW1] at hrr
 have hb1:Below W.heap.size W W1:=by rw [← hW1];exact zab (zab (zab (Below.refl _ _) _) _) _
 have HR:=yh hrr
 have HB1:=yh hb1
 have HW1:=yh hW1
 clear hrr hb1 hW1
 go_enter Tryz.func83,Tryz.ntmps83
 go_upto_region 1 with fail
 rw [HW1.out]
 have cb1:W1.cell? ⟨W.heap.size+1,1,none⟩=some (.int .u64 (b1:Int)):=by rw [cell_of_row _ _ _ _ _ _ HR.out.tail.head,HLb.out];rfl
 have cb2:W1.cell? ⟨W.heap.size+1,2,none⟩=some (.int .u64 (b2:Int)):=by rw [cell_of_row _ _ _ _ _ _ HR.out.tail.head,HLb.out];rfl
 have cb3:W1.cell? ⟨W.heap.size+1,3,none⟩=some (.int .u64 (b3:Int)):=by rw [cell_of_row _ _ _ _ _ _ HR.out.tail.head,HLb.out];rfl
 have cb4:W1.cell? ⟨W.heap.size+1,4,none⟩=some (.int .u64 (b4:Int)):=by rw [cell_of_row _ _ _ _ _ _ HR.out.tail.head,HLb.out];rfl
 go_quiet (fail)
 obtain ⟨Q0,hQ0⟩:∃ X,W1.drewN nq=X:=⟨_,rfl⟩
 have HRQ0:=yh (show RowsW Q0 [(W.heap.size+1+1,#[.int .u64 0,.int .u64 0,.int .u64 0,.int .u64 0,.int .u64 0],63),(W.heap.size+1,Lb,63),(W.heap.size,La,63)] by rw [← hQ0];exact HR.out.below (zaC (Below.refl _ _) nq))
 have HBQ0:=yh (show Below W.heap.size W Q0 by rw [← hQ0];exact zaC HB1.out nq)
 rw [hQ0]
 clear hQ0 nq cb1 cb2 cb3 cb4
 go_upto_region 2 with fail
 refine wp_region_noPanic ?_
 refine zai 21 9 153 #[.int .u64 0,.int .u64 0] (by kernel_rfl) (by kernel_rfl) ⟨by kernel_rfl,by kernel_rfl,hzw,fun _ _ _ h=>h⟩ (fun hA hS=>?_)
 refine' yD 0 hA hS ?_
 refine' yD 1 hA hS ?_ (hy:=by intro X hSX;have hc:X.cell? ⟨W.heap.size,0,none⟩=some (.int .u64 (a0:Int)):=by { rw [cell_of_row _ _ _ _ _ _ (HRQ0.out.below hSX).tail.tail.head,HLa.out];rfl };go_simp;try with_reducible rfl)
 refine' yD 2 hA hS ?_
 refine' yD 3 hA hS ?_ (hy:=by intro X hSX;have hc:X.cell? ⟨W.heap.size+1,0,none⟩=some (.int .u64 (b0:Int)):=by { rw [cell_of_row _ _ _ _ _ _ (HRQ0.out.below hSX).tail.head,HLb.out];rfl };go_simp;try with_reducible rfl)
 refine' yD 5 hA hS ?_
 refine' yD 6 hA hS ?_ (hy:=by intro X hSX;have hc:X.cell? ⟨W.heap.size,1,none⟩=some (.int .u64 (a1:Int)):=by { rw [cell_of_row _ _ _ _ _ _ (HRQ0.out.below hSX).tail.tail.head,HLa.out];rfl };go_simp;try with_reducible rfl)
 refine' yD 7 hA hS ?_
 refine' yD 9 hA hS ?_
 refine' yD 10 hA hS ?_ (hy:=by intro X hSX;have hc:X.cell? ⟨W.heap.size,2,none⟩=some (.int .u64 (a2:Int)):=by { rw [cell_of_row _ _ _ _ _ _ (HRQ0.out.below hSX).tail.tail.head,HLa.out];rfl };go_simp;try with_reducible rfl)
 refine' yD 11 hA hS ?_
 refine' yD 13 hA hS ?_
 refine' yD 14 hA hS ?_ (hy:=by intro X hSX;have hc:X.cell? ⟨W.heap.size,3,none⟩=some (.int .u64 (a3:Int)):=by { rw [cell_of_row _ _ _ _ _ _ (HRQ0.out.below hSX).tail.tail.head,HLa.out];rfl };go_simp;try with_reducible rfl)
 refine' yD 15 hA hS ?_
 refine' yD 17 hA hS ?_
 refine' yD 18 hA hS ?_ (hy:=by intro X hSX;have hc:X.cell? ⟨W.heap.size,4,none⟩=some (.int .u64 (a4:Int)):=by { rw [cell_of_row _ _ _ _ _ _ (HRQ0.out.below hSX).tail.tail.head,HLa.out];rfl };go_simp;try with_reducible rfl)
 refine' yD 19 hA hS ?_
 refine xE 4 hA hS (fun ok0 Wk0 hS K hK=>?_)
 go_simp
 with_reducible refine (H0_0.out Wk0).mono ?_
 rintro e uk0 ⟨rfl,hbk0⟩
 refine hK.out _ _ hbk0 (fun hS=>?_)
 clear hK K hbk0
 refine xE 8 hA hS (fun ok0 Wk0 hS K hK=>?_)
 go_simp
 with_reducible refine (H0_1.out Wk0).mono ?_
 rintro e uk0 ⟨rfl,hbk0⟩
 refine hK.out _ _ hbk0 (fun hS=>?_)
 clear hK K hbk0
 refine xE 12 hA hS (fun ok0 Wk0 hS K hK=>?_)
 go_simp
 with_reducible refine (H0_2.out Wk0).mono ?_
 rintro e uk0 ⟨rfl,hbk0⟩
 refine hK.out _ _ hbk0 (fun hS=>?_)
 clear hK K hbk0
 refine xE 16 hA hS (fun ok0 Wk0 hS K hK=>?_)
 go_simp
 with_reducible refine (H0_3.out Wk0).mono ?_
 rintro e uk0 ⟨rfl,hbk0⟩
 refine hK.out _ _ hbk0 (fun hS=>?_)
 clear hK K hbk0
 refine xE 20 hA hS (fun ok0 Wk0 hS K hK=>?_)
 go_simp
 with_reducible refine (H0_4.out Wk0).mono ?_
 rintro e uk0 ⟨rfl,hbk0⟩
 refine hK.out _ _ hbk0 (fun hS=>?_)
 clear hK K hbk0
 refine' zax 22 hA rfl (by kernel_rfl) (by kernel_rfl) (by kernel_rfl) hS (by kernel_rfl) rfl (by intro h;cases h) i0 sz0 on0 ?_ ?_
 rotate_left 1
 ·intro g;simp only [List.set_cons_succ,List.set_cons_zero];rfl
 intro gk0 Wk0 hgk0 hbk0 hrowk0
 clear hA hS
 refine wpAnyH_done (by kernel_rfl) ?_ _
 refine NoPanic.normal ?_
 (try simp only [Act.put])
 have HRk0:Hid (RowsW Wk0 [(gk0,V0,153),(W.heap.size+1+1,#[.int .u64 0,.int .u64 0,.int .u64 0,.int .u64 0,.int .u64 0],63),(W.heap.size+1,Lb,63),(W.heap.size,La,63)]):=yh ⟨hrowk0,HRQ0.out.below hbk0⟩
 have HBk0:=yh (zaa HBQ0.out hbk0)
 clear hgk0 hbk0 hrowk0
 go_upto_region 3 with fail
 refine wp_region_noPanic ?_
 refine zai 22 10 153 #[.int .u64 0,.int .u64 0] (by kernel_rfl) (by kernel_rfl) ⟨by kernel_rfl,by kernel_rfl,hzw,fun _ _ _ h=>h⟩ (fun hA hS=>?_)
 refine' yD 0 hA hS ?_
 refine' yD 1 hA hS ?_ (hy:=by intro X hSX;have hc:X.cell? ⟨W.heap.size,0,none⟩=some (.int .u64 (a0:Int)):=by { rw [cell_of_row _ _ _ _ _ _ (HRk0.out.below hSX).tail.tail.tail.head,HLa.out];rfl };go_simp;try with_reducible rfl)
 refine' yD 2 hA hS ?_
 refine' yD 3 hA hS ?_ (hy:=by intro X hSX;have hc:X.cell? ⟨W.heap.size+1,1,none⟩=some (.int .u64 (b1:Int)):=by { rw [cell_of_row _ _ _ _ _ _ (HRk0.out.below hSX).tail.tail.head,HLb.out];rfl };go_simp;try with_reducible rfl)
 refine' yD 5 hA hS ?_
 refine' yD 6 hA hS ?_ (hy:=by intro X hSX;have hc:X.cell? ⟨W.heap.size,1,none⟩=some (.int .u64 (a1:Int)):=by { rw [cell_of_row _ _ _ _ _ _ (HRk0.out.below hSX).tail.tail.tail.head,HLa.out];rfl };go_simp;try with_reducible rfl)
 refine' yD 7 hA hS ?_
 refine' yD 8 hA hS ?_ (hy:=by intro X hSX;have hc:X.cell? ⟨W.heap.size+1,0,none⟩=some (.int .u64 (b0:Int)):=by { rw [cell_of_row _ _ _ _ _ _ (HRk0.out.below hSX).tail.tail.head,HLb.out];rfl };go_simp;try with_reducible rfl)
 refine' yD 10 hA hS ?_
 refine' yD 11 hA hS ?_ (hy:=by intro X hSX;have hc:X.cell? ⟨W.heap.size,2,none⟩=some (.int .u64 (a2:Int)):=by { rw [cell_of_row _ _ _ _ _ _ (HRk0.out.below hSX).tail.tail.tail.head,HLa.out];rfl };go_simp;try with_reducible rfl)
 refine' yD 12 hA hS ?_
 refine' yD 14 hA hS ?_
 refine' yD 15 hA hS ?_ (hy:=by intro X hSX;have hc:X.cell? ⟨W.heap.size,3,none⟩=some (.int .u64 (a3:Int)):=by { rw [cell_of_row _ _ _ _ _ _ (HRk0.out.below hSX).tail.tail.tail.head,HLa.out];rfl };go_simp;try with_reducible rfl)
 refine' yD 16 hA hS ?_
 refine' yD 18 hA hS ?_
 refine' yD 19 hA hS ?_ (hy:=by intro X hSX;have hc:X.cell? ⟨W.heap.size,4,none⟩=some (.int .u64 (a4:Int)):=by { rw [cell_of_row _ _ _ _ _ _ (HRk0.out.below hSX).tail.tail.tail.head,HLa.out];rfl };go_simp;try with_reducible rfl)
 refine' yD 20 hA hS ?_
 refine xE 4 hA hS (fun ok1 Wk1 hS K hK=>?_)
 go_simp
 with_reducible refine (H1_0.out Wk1).mono ?_
 rintro e uk1 ⟨rfl,hbk1⟩
 refine hK.out _ _ hbk1 (fun hS=>?_)
 clear hK K hbk1
 refine xE 9 hA hS (fun ok1 Wk1 hS K hK=>?_)
 go_simp
 with_reducible refine (H1_1.out Wk1).mono ?_
 rintro e uk1 ⟨rfl,hbk1⟩
 refine hK.out _ _ hbk1 (fun hS=>?_)
 clear hK K hbk1
 refine xE 13 hA hS (fun ok1 Wk1 hS K hK=>?_)
 go_simp
 with_reducible refine (H1_2.out Wk1).mono ?_
 rintro e uk1 ⟨rfl,hbk1⟩
 refine hK.out _ _ hbk1 (fun hS=>?_)
 clear hK K hbk1
 refine xE 17 hA hS (fun ok1 Wk1 hS K hK=>?_)
 go_simp
 with_reducible refine (H1_3.out Wk1).mono ?_
 rintro e uk1 ⟨rfl,hbk1⟩
 refine hK.out _ _ hbk1 (fun hS=>?_)
 clear hK K hbk1
 refine xE 21 hA hS (fun ok1 Wk1 hS K hK=>?_)
 go_simp
 with_reducible refine (H1_4.out Wk1).mono ?_
 rintro e uk1 ⟨rfl,hbk1⟩
 refine hK.out _ _ hbk1 (fun hS=>?_)
 clear hK K hbk1
 refine' zax 23 hA rfl (by kernel_rfl) (by kernel_rfl) (by kernel_rfl) hS (by kernel_rfl) rfl (by intro h;cases h) i1 sz1 on1 ?_ ?_
 rotate_left 1
 ·intro g;simp only [List.set_cons_succ,List.set_cons_zero];rfl
 intro gk1 Wk1 hgk1 hbk1 hrowk1
 clear hA hS
 refine wpAnyH_done (by kernel_rfl) ?_ _
 refine NoPanic.normal ?_
 (try simp only [Act.put])
 have HRk1:Hid (RowsW Wk1 [(gk1,V1,153),(gk0,V0,153),(W.heap.size+1+1,#[.int .u64 0,.int .u64 0,.int .u64 0,.int .u64 0,.int .u64 0],63),(W.heap.size+1,Lb,63),(W.heap.size,La,63)]):=yh ⟨hrowk1,HRk0.out.below hbk1⟩
 have HBk1:=yh (zaa HBk0.out hbk1)
 clear hgk1 hbk1 hrowk1
 go_upto_region 4 with fail
 refine wp_region_noPanic ?_
 refine zai 23 11 153 #[.int .u64 0,.int .u64 0] (by kernel_rfl) (by kernel_rfl) ⟨by kernel_rfl,by kernel_rfl,hzw,fun _ _ _ h=>h⟩ (fun hA hS=>?_)
 refine' yD 0 hA hS ?_
 refine' yD 1 hA hS ?_ (hy:=by intro X hSX;have hc:X.cell? ⟨W.heap.size,0,none⟩=some (.int .u64 (a0:Int)):=by { rw [cell_of_row _ _ _ _ _ _ (HRk1.out.below hSX).tail.tail.tail.tail.head,HLa.out];rfl };go_simp;try with_reducible rfl)
 refine' yD 2 hA hS ?_
 refine' yD 3 hA hS ?_ (hy:=by intro X hSX;have hc:X.cell? ⟨W.heap.size+1,2,none⟩=some (.int .u64 (b2:Int)):=by { rw [cell_of_row _ _ _ _ _ _ (HRk1.out.below hSX).tail.tail.tail.head,HLb.out];rfl };go_simp;try with_reducible rfl)
 refine' yD 5 hA hS ?_
 refine' yD 6 hA hS ?_ (hy:=by intro X hSX;have hc:X.cell? ⟨W.heap.size,1,none⟩=some (.int .u64 (a1:Int)):=by { rw [cell_of_row _ _ _ _ _ _ (HRk1.out.below hSX).tail.tail.tail.tail.head,HLa.out];rfl };go_simp;try with_reducible rfl)
 refine' yD 7 hA hS ?_
 refine' yD 8 hA hS ?_ (hy:=by intro X hSX;have hc:X.cell? ⟨W.heap.size+1,1,none⟩=some (.int .u64 (b1:Int)):=by { rw [cell_of_row _ _ _ _ _ _ (HRk1.out.below hSX).tail.tail.tail.head,HLb.out];rfl };go_simp;try with_reducible rfl)
 refine' yD 10 hA hS ?_
 refine' yD 11 hA hS ?_ (hy:=by intro X hSX;have hc:X.cell? ⟨W.heap.size,2,none⟩=some (.int .u64 (a2:Int)):=by { rw [cell_of_row _ _ _ _ _ _ (HRk1.out.below hSX).tail.tail.tail.tail.head,HLa.out];rfl };go_simp;try with_reducible rfl)
 refine' yD 12 hA hS ?_
 refine' yD 13 hA hS ?_ (hy:=by intro X hSX;have hc:X.cell? ⟨W.heap.size+1,0,none⟩=some (.int .u64 (b0:Int)):=by { rw [cell_of_row _ _ _ _ _ _ (HRk1.out.below hSX).tail.tail.tail.head,HLb.out];rfl };go_simp;try with_reducible rfl)
 refine' yD 15 hA hS ?_
 refine' yD 16 hA hS ?_ (hy:=by intro X hSX;have hc:X.cell? ⟨W.heap.size,3,none⟩=some (.int .u64 (a3:Int)):=by { rw [cell_of_row _ _ _ _ _ _ (HRk1.out.below hSX).tail.tail.tail.tail.head,HLa.out];rfl };go_simp;try with_reducible rfl)
 refine' yD 17 hA hS ?_
 refine' yD 19 hA hS ?_
 refine' yD 20 hA hS ?_ (hy:=by intro X hSX;have hc:X.cell? ⟨W.heap.size,4,none⟩=some (.int .u64 (a4:Int)):=by { rw [cell_of_row _ _ _ _ _ _ (HRk1.out.below hSX).tail.tail.tail.tail.head,HLa.out];rfl };go_simp;try with_reducible rfl)
 refine' yD 21 hA hS ?_
 refine xE 4 hA hS (fun ok2 Wk2 hS K hK=>?_)
 go_simp
 with_reducible refine (H2_0.out Wk2).mono ?_
 rintro e uk2 ⟨rfl,hbk2⟩
 refine hK.out _ _ hbk2 (fun hS=>?_)
 clear hK K hbk2
 refine xE 9 hA hS (fun ok2 Wk2 hS K hK=>?_)
 go_simp
 with_reducible refine (H2_1.out Wk2).mono ?_
 rintro e uk2 ⟨rfl,hbk2⟩
 refine hK.out _ _ hbk2 (fun hS=>?_)
 clear hK K hbk2
 refine xE 14 hA hS (fun ok2 Wk2 hS K hK=>?_)
 go_simp
 with_reducible refine (H2_2.out Wk2).mono ?_
 rintro e uk2 ⟨rfl,hbk2⟩
 refine hK.out _ _ hbk2 (fun hS=>?_)
 clear hK K hbk2
 refine xE 18 hA hS (fun ok2 Wk2 hS K hK=>?_)
 go_simp
 with_reducible refine (H2_3.out Wk2).mono ?_
 rintro e uk2 ⟨rfl,hbk2⟩
 refine hK.out _ _ hbk2 (fun hS=>?_)
 clear hK K hbk2
 refine xE 22 hA hS (fun ok2 Wk2 hS K hK=>?_)
 go_simp
 with_reducible refine (H2_4.out Wk2).mono ?_
 rintro e uk2 ⟨rfl,hbk2⟩
 refine hK.out _ _ hbk2 (fun hS=>?_)
 clear hK K hbk2
 refine' zax 24 hA rfl (by kernel_rfl) (by kernel_rfl) (by kernel_rfl) hS (by kernel_rfl) rfl (by intro h;cases h) i2 sz2 on2 ?_ ?_
 rotate_left 1
 ·intro g;simp only [List.set_cons_succ,List.set_cons_zero];rfl
 intro gk2 Wk2 hgk2 hbk2 hrowk2
 clear hA hS
 refine wpAnyH_done (by kernel_rfl) ?_ _
 refine NoPanic.normal ?_
 (try simp only [Act.put])
 have HRk2:Hid (RowsW Wk2 [(gk2,V2,153),(gk1,V1,153),(gk0,V0,153),(W.heap.size+1+1,#[.int .u64 0,.int .u64 0,.int .u64 0,.int .u64 0,.int .u64 0],63),(W.heap.size+1,Lb,63),(W.heap.size,La,63)]):=yh ⟨hrowk2,HRk1.out.below hbk2⟩
 have HBk2:=yh (zaa HBk1.out hbk2)
 clear hgk2 hbk2 hrowk2
 go_upto_region 5 with fail
 refine wp_region_noPanic ?_
 refine zai 24 12 153 #[.int .u64 0,.int .u64 0] (by kernel_rfl) (by kernel_rfl) ⟨by kernel_rfl,by kernel_rfl,hzw,fun _ _ _ h=>h⟩ (fun hA hS=>?_)
 refine' yD 0 hA hS ?_
 refine' yD 1 hA hS ?_ (hy:=by intro X hSX;have hc:X.cell? ⟨W.heap.size,0,none⟩=some (.int .u64 (a0:Int)):=by { rw [cell_of_row _ _ _ _ _ _ (HRk2.out.below hSX).tail.tail.tail.tail.tail.head,HLa.out];rfl };go_simp;try with_reducible rfl)
 refine' yD 2 hA hS ?_
 refine' yD 3 hA hS ?_ (hy:=by intro X hSX;have hc:X.cell? ⟨W.heap.size+1,3,none⟩=some (.int .u64 (b3:Int)):=by { rw [cell_of_row _ _ _ _ _ _ (HRk2.out.below hSX).tail.tail.tail.tail.head,HLb.out];rfl };go_simp;try with_reducible rfl)
 refine' yD 5 hA hS ?_
 refine' yD 6 hA hS ?_ (hy:=by intro X hSX;have hc:X.cell? ⟨W.heap.size,1,none⟩=some (.int .u64 (a1:Int)):=by { rw [cell_of_row _ _ _ _ _ _ (HRk2.out.below hSX).tail.tail.tail.tail.tail.head,HLa.out];rfl };go_simp;try with_reducible rfl)
 refine' yD 7 hA hS ?_
 refine' yD 8 hA hS ?_ (hy:=by intro X hSX;have hc:X.cell? ⟨W.heap.size+1,2,none⟩=some (.int .u64 (b2:Int)):=by { rw [cell_of_row _ _ _ _ _ _ (HRk2.out.below hSX).tail.tail.tail.tail.head,HLb.out];rfl };go_simp;try with_reducible rfl)
 refine' yD 10 hA hS ?_
 refine' yD 11 hA hS ?_ (hy:=by intro X hSX;have hc:X.cell? ⟨W.heap.size,2,none⟩=some (.int .u64 (a2:Int)):=by { rw [cell_of_row _ _ _ _ _ _ (HRk2.out.below hSX).tail.tail.tail.tail.tail.head,HLa.out];rfl };go_simp;try with_reducible rfl)
 refine' yD 12 hA hS ?_
 refine' yD 13 hA hS ?_ (hy:=by intro X hSX;have hc:X.cell? ⟨W.heap.size+1,1,none⟩=some (.int .u64 (b1:Int)):=by { rw [cell_of_row _ _ _ _ _ _ (HRk2.out.below hSX).tail.tail.tail.tail.head,HLb.out];rfl };go_simp;try with_reducible rfl)
 refine' yD 15 hA hS ?_
 refine' yD 16 hA hS ?_ (hy:=by intro X hSX;have hc:X.cell? ⟨W.heap.size,3,none⟩=some (.int .u64 (a3:Int)):=by { rw [cell_of_row _ _ _ _ _ _ (HRk2.out.below hSX).tail.tail.tail.tail.tail.head,HLa.out];rfl };go_simp;try with_reducible rfl)
 refine' yD 17 hA hS ?_
 refine' yD 18 hA hS ?_ (hy:=by intro X hSX;have hc:X.cell? ⟨W.heap.size+1,0,none⟩=some (.int .u64 (b0:Int)):=by { rw [cell_of_row _ _ _ _ _ _ (HRk2.out.below hSX).tail.tail.tail.tail.head,HLb.out];rfl };go_simp;try with_reducible rfl)
 refine' yD 20 hA hS ?_
 refine' yD 21 hA hS ?_ (hy:=by intro X hSX;have hc:X.cell? ⟨W.heap.size,4,none⟩=some (.int .u64 (a4:Int)):=by { rw [cell_of_row _ _ _ _ _ _ (HRk2.out.below hSX).tail.tail.tail.tail.tail.head,HLa.out];rfl };go_simp;try with_reducible rfl)
 refine' yD 22 hA hS ?_
 refine xE 4 hA hS (fun ok3 Wk3 hS K hK=>?_)
 go_simp
 with_reducible refine (H3_0.out Wk3).mono ?_
 rintro e uk3 ⟨rfl,hbk3⟩
 refine hK.out _ _ hbk3 (fun hS=>?_)
 clear hK K hbk3
 refine xE 9 hA hS (fun ok3 Wk3 hS K hK=>?_)
 go_simp
 with_reducible refine (H3_1.out Wk3).mono ?_
 rintro e uk3 ⟨rfl,hbk3⟩
 refine hK.out _ _ hbk3 (fun hS=>?_)
 clear hK K hbk3
 refine xE 14 hA hS (fun ok3 Wk3 hS K hK=>?_)
 go_simp
 with_reducible refine (H3_2.out Wk3).mono ?_
 rintro e uk3 ⟨rfl,hbk3⟩
 refine hK.out _ _ hbk3 (fun hS=>?_)
 clear hK K hbk3
 refine xE 19 hA hS (fun ok3 Wk3 hS K hK=>?_)
 go_simp
 with_reducible refine (H3_3.out Wk3).mono ?_
 rintro e uk3 ⟨rfl,hbk3⟩
 refine hK.out _ _ hbk3 (fun hS=>?_)
 clear hK K hbk3
 refine xE 23 hA hS (fun ok3 Wk3 hS K hK=>?_)
 go_simp
 with_reducible refine (H3_4.out Wk3).mono ?_
 rintro e uk3 ⟨rfl,hbk3⟩
 refine hK.out _ _ hbk3 (fun hS=>?_)
 clear hK K hbk3
 refine' zax 25 hA rfl (by kernel_rfl) (by kernel_rfl) (by kernel_rfl) hS (by kernel_rfl) rfl (by intro h;cases h) i3 sz3 on3 ?_ ?_
 rotate_left 1
 ·intro g;simp only [List.set_cons_succ,List.set_cons_zero];rfl
 intro gk3 Wk3 hgk3 hbk3 hrowk3
 clear hA hS
 refine wpAnyH_done (by kernel_rfl) ?_ _
 refine NoPanic.normal ?_
 (try simp only [Act.put])
 have HRk3:Hid (RowsW Wk3 [(gk3,V3,153),(gk2,V2,153),(gk1,V1,153),(gk0,V0,153),(W.heap.size+1+1,#[.int .u64 0,.int .u64 0,.int .u64 0,.int .u64 0,.int .u64 0],63),(W.heap.size+1,Lb,63),(W.heap.size,La,63)]):=yh ⟨hrowk3,HRk2.out.below hbk3⟩
 have HBk3:=yh (zaa HBk2.out hbk3)
 clear hgk3 hbk3 hrowk3
 go_upto_region 6 with fail
 refine wp_region_noPanic ?_
 refine zai 25 13 153 #[.int .u64 0,.int .u64 0] (by kernel_rfl) (by kernel_rfl) ⟨by kernel_rfl,by kernel_rfl,hzw,fun _ _ _ h=>h⟩ (fun hA hS=>?_)
 refine' yD 0 hA hS ?_
 refine' yD 1 hA hS ?_ (hy:=by intro X hSX;have hc:X.cell? ⟨W.heap.size,0,none⟩=some (.int .u64 (a0:Int)):=by { rw [cell_of_row _ _ _ _ _ _ (HRk3.out.below hSX).tail.tail.tail.tail.tail.tail.head,HLa.out];rfl };go_simp;try with_reducible rfl)
 refine' yD 2 hA hS ?_
 refine' yD 3 hA hS ?_ (hy:=by intro X hSX;have hc:X.cell? ⟨W.heap.size+1,4,none⟩=some (.int .u64 (b4:Int)):=by { rw [cell_of_row _ _ _ _ _ _ (HRk3.out.below hSX).tail.tail.tail.tail.tail.head,HLb.out];rfl };go_simp;try with_reducible rfl)
 refine' yD 5 hA hS ?_
 refine' yD 6 hA hS ?_ (hy:=by intro X hSX;have hc:X.cell? ⟨W.heap.size,1,none⟩=some (.int .u64 (a1:Int)):=by { rw [cell_of_row _ _ _ _ _ _ (HRk3.out.below hSX).tail.tail.tail.tail.tail.tail.head,HLa.out];rfl };go_simp;try with_reducible rfl)
 refine' yD 7 hA hS ?_
 refine' yD 8 hA hS ?_ (hy:=by intro X hSX;have hc:X.cell? ⟨W.heap.size+1,3,none⟩=some (.int .u64 (b3:Int)):=by { rw [cell_of_row _ _ _ _ _ _ (HRk3.out.below hSX).tail.tail.tail.tail.tail.head,HLb.out];rfl };go_simp;try with_reducible rfl)
 refine' yD 10 hA hS ?_
 refine' yD 11 hA hS ?_ (hy:=by intro X hSX;have hc:X.cell? ⟨W.heap.size,2,none⟩=some (.int .u64 (a2:Int)):=by { rw [cell_of_row _ _ _ _ _ _ (HRk3.out.below hSX).tail.tail.tail.tail.tail.tail.head,HLa.out];rfl };go_simp;try with_reducible rfl)
 refine' yD 12 hA hS ?_
 refine' yD 13 hA hS ?_ (hy:=by intro X hSX;have hc:X.cell? ⟨W.heap.size+1,2,none⟩=some (.int .u64 (b2:Int)):=by { rw [cell_of_row _ _ _ _ _ _ (HRk3.out.below hSX).tail.tail.tail.tail.tail.head,HLb.out];rfl };go_simp;try with_reducible rfl)
 refine' yD 15 hA hS ?_
 refine' yD 16 hA hS ?_ (hy:=by intro X hSX;have hc:X.cell? ⟨W.heap.size,3,none⟩=some (.int .u64 (a3:Int)):=by { rw [cell_of_row _ _ _ _ _ _ (HRk3.out.below hSX).tail.tail.tail.tail.tail.tail.head,HLa.out];rfl };go_simp;try with_reducible rfl)
 refine' yD 17 hA hS ?_
 refine' yD 18 hA hS ?_ (hy:=by intro X hSX;have hc:X.cell? ⟨W.heap.size+1,1,none⟩=some (.int .u64 (b1:Int)):=by { rw [cell_of_row _ _ _ _ _ _ (HRk3.out.below hSX).tail.tail.tail.tail.tail.head,HLb.out];rfl };go_simp;try with_reducible rfl)
 refine' yD 20 hA hS ?_
 refine' yD 21 hA hS ?_ (hy:=by intro X hSX;have hc:X.cell? ⟨W.heap.size,4,none⟩=some (.int .u64 (a4:Int)):=by { rw [cell_of_row _ _ _ _ _ _ (HRk3.out.below hSX).tail.tail.tail.tail.tail.tail.head,HLa.out];rfl };go_simp;try with_reducible rfl)
 refine' yD 22 hA hS ?_
 refine' yD 23 hA hS ?_ (hy:=by intro X hSX;have hc:X.cell? ⟨W.heap.size+1,0,none⟩=some (.int .u64 (b0:Int)):=by { rw [cell_of_row _ _ _ _ _ _ (HRk3.out.below hSX).tail.tail.tail.tail.tail.head,HLb.out];rfl };go_simp;try with_reducible rfl)
 refine xE 4 hA hS (fun ok4 Wk4 hS K hK=>?_)
 go_simp
 with_reducible refine (H4_0.out Wk4).mono ?_
 rintro e uk4 ⟨rfl,hbk4⟩
 refine hK.out _ _ hbk4 (fun hS=>?_)
 clear hK K hbk4
 refine xE 9 hA hS (fun ok4 Wk4 hS K hK=>?_)
 go_simp
 with_reducible refine (H4_1.out Wk4).mono ?_
 rintro e uk4 ⟨rfl,hbk4⟩
 refine hK.out _ _ hbk4 (fun hS=>?_)
 clear hK K hbk4
 refine xE 14 hA hS (fun ok4 Wk4 hS K hK=>?_)
 go_simp
 with_reducible refine (H4_2.out Wk4).mono ?_
 rintro e uk4 ⟨rfl,hbk4⟩
 refine hK.out _ _ hbk4 (fun hS=>?_)
 clear hK K hbk4
 refine xE 19 hA hS (fun ok4 Wk4 hS K hK=>?_)
 go_simp
 with_reducible refine (H4_3.out Wk4).mono ?_
 rintro e uk4 ⟨rfl,hbk4⟩
 refine hK.out _ _ hbk4 (fun hS=>?_)
 clear hK K hbk4
 refine xE 24 hA hS (fun ok4 Wk4 hS K hK=>?_)
 go_simp
 with_reducible refine (H4_4.out Wk4).mono ?_
 rintro e uk4 ⟨rfl,hbk4⟩
 refine hK.out _ _ hbk4 (fun hS=>?_)
 clear hK K hbk4
 refine' zax 26 hA rfl (by kernel_rfl) (by kernel_rfl) (by kernel_rfl) hS (by kernel_rfl) rfl (by intro h;cases h) i4 sz4 on4 ?_ ?_
 rotate_left 1
 ·intro g;simp only [List.set_cons_succ,List.set_cons_zero];rfl
 intro gk4 Wk4 hgk4 hbk4 hrowk4
 clear hA hS
 refine wpAnyH_done (by kernel_rfl) ?_ _
 refine NoPanic.normal ?_
 (try simp only [Act.put])
 have HRk4:Hid (RowsW Wk4 [(gk4,V4,153),(gk3,V3,153),(gk2,V2,153),(gk1,V1,153),(gk0,V0,153),(W.heap.size+1+1,#[.int .u64 0,.int .u64 0,.int .u64 0,.int .u64 0,.int .u64 0],63),(W.heap.size+1,Lb,63),(W.heap.size,La,63)]):=yh ⟨hrowk4,HRk3.out.below hbk4⟩
 have HBk4:=yh (zaa HBk3.out hbk4)
 clear hgk4 hbk4 hrowk4
 go_upto_region 7 with fail
 have l0:=HRk4.out.tail.tail.tail.tail.head
 have l1:=HRk4.out.tail.tail.tail.head
 have l2:=HRk4.out.tail.tail.head
 have l3:=HRk4.out.tail.head
 have l4:=HRk4.out.head
 go_wp2_with (first | (refine zaj (o:=⟨some 141,_,_,_,_,_⟩) rfl (.agg V0) (zad rfl rfl l0 Tryz.underlying153 rfl i0) ?_) | (refine zaj (o:=⟨some 142,_,_,_,_,_⟩) rfl (.agg V1) (zad rfl rfl l1 Tryz.underlying153 rfl i1) ?_) | (refine zaj (o:=⟨some 143,_,_,_,_,_⟩) rfl (.agg V2) (zad rfl rfl l2 Tryz.underlying153 rfl i2) ?_) | (refine zaj (o:=⟨some 144,_,_,_,_,_⟩) rfl (.agg V3) (zad rfl rfl l3 Tryz.underlying153 rfl i3) ?_) | (refine zaj (o:=⟨some 145,_,_,_,_,_⟩) rfl (.agg V4) (zad rfl rfl l4 Tryz.underlying153 rfl i4) ?_))
 with_reducible refine (HN.out _).mono ?_
 rintro e w2 ⟨S,rfl,hR,hb2⟩
 have hr2:=(HRk4.out.below hb2).tail.tail.tail.tail.tail.head
 have iS:=feR_info hR
 have sS:=feR_size hR
 have oS:=feR_one hR
 have HP:Hid (∀ w',Below W.heap.size W w'→RetFe feR W nn (.returned (.agg S)) w'):=yh fun w' hb=>⟨S,rfl,hR,hb⟩
 have HE:Hid (Below W.heap.size W (w2.setRow (W.heap.size+1+1) S)):=yh (zac (zaa HBk4.out hb2) (by omega))
 clear hb2 hR
 go_wp2_with (refine yj S hr2 iS sS oS ?_)
 (try simp only [Exit.inBlock,Exit.then])
 refine bodyPost_ret (results_cell_row rfl _ _ (W.heap.size+1+1) _ S _ _ rfl (setRow_heap w2 _ _ _ _ _ hr2) Tryz.underlying63 rfl iS) rfl ?_
 exact HP.out _ HE.out
end Go.Proofs.YtkgodlcnoenmbaaGreat
namespace Go.Proofs.YtkgodlcnoenmbaaGreat
open Go.RowKit
set_option linter.unusedVariables false
set_option maxRecDepth 100000
theorem val5_square (a0 a1 a2 a3 a4:Nat):val5 (a0*a0+(2*a1)*(19*a4)+(2*a2)*(19*a3)) ((2*a0)*a1+(2*a2)*(19*a4)+a3*(19*a3)) ((2*a0)*a2+a1*a1+(2*a3)*(19*a4)) ((2*a0)*a3+(2*a1)*a2+a4*(19*a4)) ((2*a0)*a4+(2*a1)*a3+a2*a2) % PP=(val5 a0 a1 a2 a3 a4 % PP*(val5 a0 a1 a2 a3 a4 % PP)) % PP:=by
 rw [← val5_mul]
 have h0:a0*a0+(2*a1)*(19*a4)+(2*a2)*(19*a3)=a0*a0+a1*(19*a4)+a2*(19*a3)+a3*(19*a2)+a4*(19*a1):=by grind
 have h1:(2*a0)*a1+(2*a2)*(19*a4)+a3*(19*a3)=a0*a1+a1*a0+a2*(19*a4)+a3*(19*a3)+a4*(19*a2):=by grind
 have h2:(2*a0)*a2+a1*a1+(2*a3)*(19*a4)=a0*a2+a1*a1+a2*a0+a3*(19*a4)+a4*(19*a3):=by grind
 have h3:(2*a0)*a3+(2*a1)*a2+a4*(19*a4)=a0*a3+a1*a2+a2*a1+a3*a0+a4*(19*a4):=by grind
 have h4:(2*a0)*a4+(2*a1)*a3+a2*a2=a0*a4+a1*a3+a2*a2+a3*a1+a4*a0:=by grind
 rw [h0,h1,h2,h3,h4]
set_option maxHeartbeats 6400000 in
theorem fesquare_any {c:Array Value} {x:Nat} (hx:feR c x) (W:World):Calls Tryz.prog 79 #[.agg c] W (RetFe feR W ((x*x) % PP)):=by
 obtain ⟨a0,a1,a2,a3,a4,rfl,ha0,ha1,ha2,ha3,ha4,rfl⟩:=hx
 rw [← val5_square]
 obtain ⟨d0,wd0,hd0,ed0⟩:∃ f:Nat,IntKind.u64.wrap (2*(a0:Int))=(f:Int)∧f<4503599627894784∧2*a0=f:=⟨2*a0,by rw [IntKind.wrap_u64];unfold L51 at ha0;omega,by unfold L51 at ha0;omega,rfl⟩
 obtain ⟨d1,wd1,hd1,ed1⟩:∃ f:Nat,IntKind.u64.wrap (2*(a1:Int))=(f:Int)∧f<4503599627894784∧2*a1=f:=⟨2*a1,by rw [IntKind.wrap_u64];unfold L51 at ha1;omega,by unfold L51 at ha1;omega,rfl⟩
 obtain ⟨e2,we2,he2,ee2⟩:∃ f:Nat,IntKind.u64.wrap (2*(a2:Int))=(f:Int)∧f<4503599627894784∧2*a2=f:=⟨2*a2,by rw [IntKind.wrap_u64];unfold L51 at ha2;omega,by unfold L51 at ha2;omega,rfl⟩
 obtain ⟨e3,we3,he3,ee3⟩:∃ f:Nat,IntKind.u64.wrap (2*(a3:Int))=(f:Int)∧f<4503599627894784∧2*a3=f:=⟨2*a3,by rw [IntKind.wrap_u64];unfold L51 at ha3;omega,by unfold L51 at ha3;omega,rfl⟩
 obtain ⟨f3,wf3,hf3,ef3⟩:∃ f:Nat,IntKind.u64.wrap (19*(a3:Int))=(f:Int)∧f<42784196465000448∧19*a3=f:=⟨19*a3,by rw [IntKind.wrap_u64];unfold L51 at ha3;omega,by unfold L51 at ha3;omega,rfl⟩
 obtain ⟨f4,wf4,hf4,ef4⟩:∃ f:Nat,IntKind.u64.wrap (19*(a4:Int))=(f:Int)∧f<42784196465000448∧19*a4=f:=⟨19*a4,by rw [IntKind.wrap_u64];unfold L51 at ha4;omega,by unfold L51 at ha4;omega,rfl⟩
 rw [ed0,ed1,ee2,ee3,ef3,ef4]
 unfold L51 at *
 have B0:a0*a0+d1*f4+e2*f3<1298074214633706907132624082305024:=by
  have p0:a0*a0≤5070602402093504723173315706881:=Nat.le_trans (Nat.mul_le_mul (Nat.le_of_lt_succ ha0) (Nat.le_of_lt_succ ha0)) (by decide)
  have p1:d1*f4≤192682891279553303329575763968001:=Nat.le_trans (Nat.mul_le_mul (Nat.le_of_lt_succ hd1) (Nat.le_of_lt_succ hf4)) (by decide)
  have p2:e2*f3≤192682891279553303329575763968001:=Nat.le_trans (Nat.mul_le_mul (Nat.le_of_lt_succ he2) (Nat.le_of_lt_succ hf3)) (by decide)
  omega
 have B1:d0*a1+e2*f4+a3*f3<1298074214633706907132624082305024:=by
  have p0:d0*a1≤10141204804187011698146445361153:=Nat.le_trans (Nat.mul_le_mul (Nat.le_of_lt_succ hd0) (Nat.le_of_lt_succ ha1)) (by decide)
  have p1:e2*f4≤192682891279553303329575763968001:=Nat.le_trans (Nat.mul_le_mul (Nat.le_of_lt_succ he2) (Nat.le_of_lt_succ hf4)) (by decide)
  have p2:a3*f3≤96341445639776630272689649483777:=Nat.le_trans (Nat.mul_le_mul (Nat.le_of_lt_succ ha3) (Nat.le_of_lt_succ hf3)) (by decide)
  omega
 have B2:d0*a2+a1*a1+e3*f4<1298074214633706907132624082305024:=by
  have p0:d0*a2≤10141204804187011698146445361153:=Nat.le_trans (Nat.mul_le_mul (Nat.le_of_lt_succ hd0) (Nat.le_of_lt_succ ha2)) (by decide)
  have p1:a1*a1≤5070602402093504723173315706881:=Nat.le_trans (Nat.mul_le_mul (Nat.le_of_lt_succ ha1) (Nat.le_of_lt_succ ha1)) (by decide)
  have p2:e3*f4≤192682891279553303329575763968001:=Nat.le_trans (Nat.mul_le_mul (Nat.le_of_lt_succ he3) (Nat.le_of_lt_succ hf4)) (by decide)
  omega
 have B3:d0*a3+d1*a2+a4*f4<1298074214633706907132624082305024:=by
  have p0:d0*a3≤10141204804187011698146445361153:=Nat.le_trans (Nat.mul_le_mul (Nat.le_of_lt_succ hd0) (Nat.le_of_lt_succ ha3)) (by decide)
  have p1:d1*a2≤10141204804187011698146445361153:=Nat.le_trans (Nat.mul_le_mul (Nat.le_of_lt_succ hd1) (Nat.le_of_lt_succ ha2)) (by decide)
  have p2:a4*f4≤96341445639776630272689649483777:=Nat.le_trans (Nat.mul_le_mul (Nat.le_of_lt_succ ha4) (Nat.le_of_lt_succ hf4)) (by decide)
  omega
 have B4:d0*a4+d1*a3+a2*a2<1298074214633706907132624082305024:=by
  have p0:d0*a4≤10141204804187011698146445361153:=Nat.le_trans (Nat.mul_le_mul (Nat.le_of_lt_succ hd0) (Nat.le_of_lt_succ ha4)) (by decide)
  have p1:d1*a3≤10141204804187011698146445361153:=Nat.le_trans (Nat.mul_le_mul (Nat.le_of_lt_succ hd1) (Nat.le_of_lt_succ ha3)) (by decide)
  have p2:a2*a2≤5070602402093504723173315706881:=Nat.le_trans (Nat.mul_le_mul (Nat.le_of_lt_succ ha2) (Nat.le_of_lt_succ ha2)) (by decide)
  omega
 have HN:Hid (∀ W':World,Calls Tryz.prog 122 #[.agg (wide2 (a0*a0+d1*f4+e2*f3)),.agg (wide2 (d0*a1+e2*f4+a3*f3)),.agg (wide2 (d0*a2+a1*a1+e3*f4)),.agg (wide2 (d0*a3+d1*a2+a4*f4)),.agg (wide2 (d0*a4+d1*a3+a2*a2))] W' (RetFe feR W' (val5 (a0*a0+d1*f4+e2*f3) (d0*a1+e2*f4+a3*f3) (d0*a2+a1*a1+e3*f4) (d0*a3+d1*a2+a4*f4) (d0*a4+d1*a3+a2*a2) % PP))):=yh fun W'=>narrowed_any _ _ _ _ _ B0 B1 B2 B3 B4 W'
 have H0_0:Hid (∀ W':World,Calls Tryz.prog 120 #[.int .u64 (a0:Int),.int .u64 (a0:Int)] W' (RetV W' (.agg (wide2 (a0*a0))))):=yh fun W'=>zaL a0 a0 (by omega) (by omega) W'
 have H0_1:Hid (∀ W':World,Calls Tryz.prog 121 #[.agg (wide2 (a0*a0)),.int .u64 (d1:Int),.int .u64 (f4:Int)] W' (RetV W' (.agg (wide2 (a0*a0+d1*f4))))):=yh fun W'=>zao (a0*a0) d1 f4 (by omega) (by omega) (by have:=B0;omega) W'
 have H0_2:Hid (∀ W':World,Calls Tryz.prog 121 #[.agg (wide2 (a0*a0+d1*f4)),.int .u64 (e2:Int),.int .u64 (f3:Int)] W' (RetV W' (.agg (wide2 (a0*a0+d1*f4+e2*f3))))):=yh fun W'=>zao (a0*a0+d1*f4) e2 f3 (by omega) (by omega) (by have:=B0;omega) W'
 have H1_0:Hid (∀ W':World,Calls Tryz.prog 120 #[.int .u64 (d0:Int),.int .u64 (a1:Int)] W' (RetV W' (.agg (wide2 (d0*a1))))):=yh fun W'=>zaL d0 a1 (by omega) (by omega) W'
 have H1_1:Hid (∀ W':World,Calls Tryz.prog 121 #[.agg (wide2 (d0*a1)),.int .u64 (e2:Int),.int .u64 (f4:Int)] W' (RetV W' (.agg (wide2 (d0*a1+e2*f4))))):=yh fun W'=>zao (d0*a1) e2 f4 (by omega) (by omega) (by have:=B1;omega) W'
 have H1_2:Hid (∀ W':World,Calls Tryz.prog 121 #[.agg (wide2 (d0*a1+e2*f4)),.int .u64 (a3:Int),.int .u64 (f3:Int)] W' (RetV W' (.agg (wide2 (d0*a1+e2*f4+a3*f3))))):=yh fun W'=>zao (d0*a1+e2*f4) a3 f3 (by omega) (by omega) (by have:=B1;omega) W'
 have H2_0:Hid (∀ W':World,Calls Tryz.prog 120 #[.int .u64 (d0:Int),.int .u64 (a2:Int)] W' (RetV W' (.agg (wide2 (d0*a2))))):=yh fun W'=>zaL d0 a2 (by omega) (by omega) W'
 have H2_1:Hid (∀ W':World,Calls Tryz.prog 121 #[.agg (wide2 (d0*a2)),.int .u64 (a1:Int),.int .u64 (a1:Int)] W' (RetV W' (.agg (wide2 (d0*a2+a1*a1))))):=yh fun W'=>zao (d0*a2) a1 a1 (by omega) (by omega) (by have:=B2;omega) W'
 have H2_2:Hid (∀ W':World,Calls Tryz.prog 121 #[.agg (wide2 (d0*a2+a1*a1)),.int .u64 (e3:Int),.int .u64 (f4:Int)] W' (RetV W' (.agg (wide2 (d0*a2+a1*a1+e3*f4))))):=yh fun W'=>zao (d0*a2+a1*a1) e3 f4 (by omega) (by omega) (by have:=B2;omega) W'
 have H3_0:Hid (∀ W':World,Calls Tryz.prog 120 #[.int .u64 (d0:Int),.int .u64 (a3:Int)] W' (RetV W' (.agg (wide2 (d0*a3))))):=yh fun W'=>zaL d0 a3 (by omega) (by omega) W'
 have H3_1:Hid (∀ W':World,Calls Tryz.prog 121 #[.agg (wide2 (d0*a3)),.int .u64 (d1:Int),.int .u64 (a2:Int)] W' (RetV W' (.agg (wide2 (d0*a3+d1*a2))))):=yh fun W'=>zao (d0*a3) d1 a2 (by omega) (by omega) (by have:=B3;omega) W'
 have H3_2:Hid (∀ W':World,Calls Tryz.prog 121 #[.agg (wide2 (d0*a3+d1*a2)),.int .u64 (a4:Int),.int .u64 (f4:Int)] W' (RetV W' (.agg (wide2 (d0*a3+d1*a2+a4*f4))))):=yh fun W'=>zao (d0*a3+d1*a2) a4 f4 (by omega) (by omega) (by have:=B3;omega) W'
 have H4_0:Hid (∀ W':World,Calls Tryz.prog 120 #[.int .u64 (d0:Int),.int .u64 (a4:Int)] W' (RetV W' (.agg (wide2 (d0*a4))))):=yh fun W'=>zaL d0 a4 (by omega) (by omega) W'
 have H4_1:Hid (∀ W':World,Calls Tryz.prog 121 #[.agg (wide2 (d0*a4)),.int .u64 (d1:Int),.int .u64 (a3:Int)] W' (RetV W' (.agg (wide2 (d0*a4+d1*a3))))):=yh fun W'=>zao (d0*a4) d1 a3 (by omega) (by omega) (by have:=B4;omega) W'
 have H4_2:Hid (∀ W':World,Calls Tryz.prog 121 #[.agg (wide2 (d0*a4+d1*a3)),.int .u64 (a2:Int),.int .u64 (a2:Int)] W' (RetV W' (.agg (wide2 (d0*a4+d1*a3+a2*a2))))):=yh fun W'=>zao (d0*a4+d1*a3) a2 a2 (by omega) (by omega) (by have:=B4;omega) W'
 generalize val5 (a0*a0+d1*f4+e2*f3) (d0*a1+e2*f4+a3*f3) (d0*a2+a1*a1+e3*f4) (d0*a3+d1*a2+a4*f4) (d0*a4+d1*a3+a2*a2) % PP=nn at *
 clear B0 B1 B2 B3 B4 ed0 ed1 ee2 ee3 ef3 ef4
 generalize wide2 (a0*a0)=U0_0 at *
 generalize wide2 (a0*a0+d1*f4)=U0_1 at *
 have i0:=zaA (a0*a0+d1*f4+e2*f3)
 have on0:=zaR (a0*a0+d1*f4+e2*f3)
 have sz0:(#[.int .u64 0,.int .u64 0]:Array Value).size=(wide2 (a0*a0+d1*f4+e2*f3)).size:=rfl
 generalize wide2 (a0*a0+d1*f4+e2*f3)=V0 at *
 generalize wide2 (d0*a1)=U1_0 at *
 generalize wide2 (d0*a1+e2*f4)=U1_1 at *
 have i1:=zaA (d0*a1+e2*f4+a3*f3)
 have on1:=zaR (d0*a1+e2*f4+a3*f3)
 have sz1:(#[.int .u64 0,.int .u64 0]:Array Value).size=(wide2 (d0*a1+e2*f4+a3*f3)).size:=rfl
 generalize wide2 (d0*a1+e2*f4+a3*f3)=V1 at *
 generalize wide2 (d0*a2)=U2_0 at *
 generalize wide2 (d0*a2+a1*a1)=U2_1 at *
 have i2:=zaA (d0*a2+a1*a1+e3*f4)
 have on2:=zaR (d0*a2+a1*a1+e3*f4)
 have sz2:(#[.int .u64 0,.int .u64 0]:Array Value).size=(wide2 (d0*a2+a1*a1+e3*f4)).size:=rfl
 generalize wide2 (d0*a2+a1*a1+e3*f4)=V2 at *
 generalize wide2 (d0*a3)=U3_0 at *
 generalize wide2 (d0*a3+d1*a2)=U3_1 at *
 have i3:=zaA (d0*a3+d1*a2+a4*f4)
 have on3:=zaR (d0*a3+d1*a2+a4*f4)
 have sz3:(#[.int .u64 0,.int .u64 0]:Array Value).size=(wide2 (d0*a3+d1*a2+a4*f4)).size:=rfl
 generalize wide2 (d0*a3+d1*a2+a4*f4)=V3 at *
 generalize wide2 (d0*a4)=U4_0 at *
 generalize wide2 (d0*a4+d1*a3)=U4_1 at *
 have i4:=zaA (d0*a4+d1*a3+a2*a2)
 have on4:=zaR (d0*a4+d1*a3+a2*a2)
 have sz4:(#[.int .u64 0,.int .u64 0]:Array Value).size=(wide2 (d0*a4+d1*a3+a2*a2)).size:=rfl
 generalize wide2 (d0*a4+d1*a3+a2*a2)=V4 at *
 have zd0:IntKind.u64.wrap (d0:Int)=(d0:Int):=by rw [IntKind.wrap_u64];omega
 have zd1:IntKind.u64.wrap (d1:Int)=(d1:Int):=by rw [IntKind.wrap_u64];omega
 have ze2:IntKind.u64.wrap (e2:Int)=(e2:Int):=by rw [IntKind.wrap_u64];omega
 have ze3:IntKind.u64.wrap (e3:Int)=(e3:Int):=by rw [IntKind.wrap_u64];omega
 have zf3:IntKind.u64.wrap (f3:Int)=(f3:Int):=by rw [IntKind.wrap_u64];omega
 have zf4:IntKind.u64.wrap (f4:Int)=(f4:Int):=by rw [IntKind.wrap_u64];omega
 clear ha0 ha1 ha2 ha3 ha4 hd0 hd1 he2 he3 hf3 hf4
 have hzw:∀ u,(zeroValue 153).run Tryz.prog u=.ok (.agg #[.int .u64 0,.int .u64 0]) u:=fun u=>zero_arr 153 #[.int .u64 0,.int .u64 0] 2 (by kernel_rfl) u
 obtain ⟨La,hLa⟩:∃ L,limb5 a0 a1 a2 a3 a4=L:=⟨_,rfl⟩
 rw [hLa]
 have HLa:Hid (La=limb5 a0 a1 a2 a3 a4):=yh hLa.symm
 clear hLa
 have hrr:RowsW ((W.alloc (.cells La 63)).alloc (.cells #[.int .u64 0,.int .u64 0,.int .u64 0,.int .u64 0,.int .u64 0] 63)) [(W.heap.size+1,#[.int .u64 0,.int .u64 0,.int .u64 0,.int .u64 0,.int .u64 0],63),(W.heap.size,La,63)]:=by have h:=(RowsW.box (RowsW.box (RowsW.nil W) La 63) #[.int .u64 0,.int .u64 0,.int .u64 0,.int .u64 0,.int .u64 0] 63);simp only [World.size_alloc] at h;exact h
 obtain ⟨W1,hW1⟩:∃ W1,((W.alloc (.cells La 63)).alloc (.cells #[.int .u64 0,.int .u64 0,.int .u64 0,.int .u64 0,.int .u64 0] 63))=W1:=⟨_,rfl⟩
 rw [hW1] at hrr
 have hb1:Below W.heap.size W W1:=by rw [← hW1];exact zab (zab (Below.refl _ _) _) _
 have HR:=yh hrr
 have HB1:=yh hb1
 have HW1:=yh hW1
 clear hrr hb1 hW1
 go_enter Tryz.func79,Tryz.ntmps79
 go_upto_region 1 with fail
 rw [HW1.out]
 have ca0:W1.cell? ⟨W.heap.size,0,none⟩=some (.int .u64 (a0:Int)):=by rw [cell_of_row _ _ _ _ _ _ HR.out.tail.head,HLa.out];rfl
 have ca1:W1.cell? ⟨W.heap.size,1,none⟩=some (.int .u64 (a1:Int)):=by rw [cell_of_row _ _ _ _ _ _ HR.out.tail.head,HLa.out];rfl
 go_quiet (fail)
 obtain ⟨Q0,hQ0⟩:∃ X,W1.drewN nq=X:=⟨_,rfl⟩
 have HRQ0:=yh (show RowsW Q0 [(W.heap.size+1,#[.int .u64 0,.int .u64 0,.int .u64 0,.int .u64 0,.int .u64 0],63),(W.heap.size,La,63)] by rw [← hQ0];exact HR.out.below (zaC (Below.refl _ _) nq))
 have HBQ0:=yh (show Below W.heap.size W Q0 by rw [← hQ0];exact zaC HB1.out nq)
 rw [hQ0]
 clear hQ0 nq ca0 ca1
 go_upto_region 2 with fail
 have ca3:Q0.cell? ⟨W.heap.size,3,none⟩=some (.int .u64 (a3:Int)):=by rw [cell_of_row _ _ _ _ _ _ HRQ0.out.tail.head,HLa.out];rfl
 have ca4:Q0.cell? ⟨W.heap.size,4,none⟩=some (.int .u64 (a4:Int)):=by rw [cell_of_row _ _ _ _ _ _ HRQ0.out.tail.head,HLa.out];rfl
 go_quiet (fail)
 obtain ⟨Q1,hQ1⟩:∃ X,Q0.drewN nq=X:=⟨_,rfl⟩
 have HRQ1:=yh (show RowsW Q1 [(W.heap.size+1,#[.int .u64 0,.int .u64 0,.int .u64 0,.int .u64 0,.int .u64 0],63),(W.heap.size,La,63)] by rw [← hQ1];exact HRQ0.out.below (zaC (Below.refl _ _) nq))
 have HBQ1:=yh (show Below W.heap.size W Q1 by rw [← hQ1];exact zaC HBQ0.out nq)
 rw [hQ1]
 clear hQ1 nq ca3 ca4
 go_upto_region 3 with fail
 refine wp_region_noPanic ?_
 refine zai 13 7 153 #[.int .u64 0,.int .u64 0] (by kernel_rfl) (by kernel_rfl) ⟨by kernel_rfl,by kernel_rfl,hzw,fun _ _ _ h=>h⟩ (fun hA hS=>?_)
 refine' yD 0 hA hS ?_
 refine' yD 1 hA hS ?_ (hy:=by intro X hSX;have hc:X.cell? ⟨W.heap.size,0,none⟩=some (.int .u64 (a0:Int)):=by { rw [cell_of_row _ _ _ _ _ _ (HRQ1.out.below hSX).tail.head,HLa.out];rfl };go_simp;try with_reducible rfl)
 refine' yD 2 hA hS ?_
 refine' yD 3 hA hS ?_ (hy:=by intro X hSX;have hc:X.cell? ⟨W.heap.size,0,none⟩=some (.int .u64 (a0:Int)):=by { rw [cell_of_row _ _ _ _ _ _ (HRQ1.out.below hSX).tail.head,HLa.out];rfl };go_simp;try with_reducible rfl)
 refine' yD 5 hA hS ?_
 refine' yD 6 hA hS ?_
 refine' yD 8 hA hS ?_
 refine' yD 9 hA hS ?_ (hy:=by intro X hSX;have hc:X.cell? ⟨W.heap.size,2,none⟩=some (.int .u64 (a2:Int)):=by { rw [cell_of_row _ _ _ _ _ _ (HRQ1.out.below hSX).tail.head,HLa.out];rfl };go_simp;try with_reducible rfl)
 refine' yD 10 hA hS ?_
 refine' yD 11 hA hS ?_
 refine xE 4 hA hS (fun ok0 Wk0 hS K hK=>?_)
 go_simp
 with_reducible refine (H0_0.out Wk0).mono ?_
 rintro e uk0 ⟨rfl,hbk0⟩
 refine hK.out _ _ hbk0 (fun hS=>?_)
 clear hK K hbk0
 refine xE 7 hA hS (fun ok0 Wk0 hS K hK=>?_)
 go_simp
 with_reducible refine (H0_1.out Wk0).mono ?_
 rintro e uk0 ⟨rfl,hbk0⟩
 refine hK.out _ _ hbk0 (fun hS=>?_)
 clear hK K hbk0
 refine xE 12 hA hS (fun ok0 Wk0 hS K hK=>?_)
 go_simp
 with_reducible refine (H0_2.out Wk0).mono ?_
 rintro e uk0 ⟨rfl,hbk0⟩
 refine hK.out _ _ hbk0 (fun hS=>?_)
 clear hK K hbk0
 refine' zax 14 hA rfl (by kernel_rfl) (by kernel_rfl) (by kernel_rfl) hS (by kernel_rfl) rfl (by intro h;cases h) i0 sz0 on0 ?_ ?_
 rotate_left 1
 ·intro g;simp only [List.set_cons_succ,List.set_cons_zero];rfl
 intro gk0 Wk0 hgk0 hbk0 hrowk0
 clear hA hS
 refine wpAnyH_done (by kernel_rfl) ?_ _
 refine NoPanic.normal ?_
 (try simp only [Act.put])
 have HRk0:Hid (RowsW Wk0 [(gk0,V0,153),(W.heap.size+1,#[.int .u64 0,.int .u64 0,.int .u64 0,.int .u64 0,.int .u64 0],63),(W.heap.size,La,63)]):=yh ⟨hrowk0,HRQ1.out.below hbk0⟩
 have HBk0:=yh (zaa HBQ1.out hbk0)
 clear hgk0 hbk0 hrowk0
 go_upto_region 4 with fail
 refine wp_region_noPanic ?_
 refine zai 13 8 153 #[.int .u64 0,.int .u64 0] (by kernel_rfl) (by kernel_rfl) ⟨by kernel_rfl,by kernel_rfl,hzw,fun _ _ _ h=>h⟩ (fun hA hS=>?_)
 refine' yD 0 hA hS ?_
 refine' yD 1 hA hS ?_
 refine' yD 2 hA hS ?_ (hy:=by intro X hSX;have hc:X.cell? ⟨W.heap.size,1,none⟩=some (.int .u64 (a1:Int)):=by { rw [cell_of_row _ _ _ _ _ _ (HRk0.out.below hSX).tail.tail.head,HLa.out];rfl };go_simp;try with_reducible rfl)
 refine' yD 4 hA hS ?_
 refine' yD 5 hA hS ?_ (hy:=by intro X hSX;have hc:X.cell? ⟨W.heap.size,2,none⟩=some (.int .u64 (a2:Int)):=by { rw [cell_of_row _ _ _ _ _ _ (HRk0.out.below hSX).tail.tail.head,HLa.out];rfl };go_simp;try with_reducible rfl)
 refine' yD 6 hA hS ?_
 refine' yD 7 hA hS ?_
 refine' yD 9 hA hS ?_
 refine' yD 10 hA hS ?_ (hy:=by intro X hSX;have hc:X.cell? ⟨W.heap.size,3,none⟩=some (.int .u64 (a3:Int)):=by { rw [cell_of_row _ _ _ _ _ _ (HRk0.out.below hSX).tail.tail.head,HLa.out];rfl };go_simp;try with_reducible rfl)
 refine' yD 11 hA hS ?_
 refine xE 3 hA hS (fun ok1 Wk1 hS K hK=>?_)
 go_simp
 with_reducible refine (H1_0.out Wk1).mono ?_
 rintro e uk1 ⟨rfl,hbk1⟩
 refine hK.out _ _ hbk1 (fun hS=>?_)
 clear hK K hbk1
 refine xE 8 hA hS (fun ok1 Wk1 hS K hK=>?_)
 go_simp
 with_reducible refine (H1_1.out Wk1).mono ?_
 rintro e uk1 ⟨rfl,hbk1⟩
 refine hK.out _ _ hbk1 (fun hS=>?_)
 clear hK K hbk1
 refine xE 12 hA hS (fun ok1 Wk1 hS K hK=>?_)
 go_simp
 with_reducible refine (H1_2.out Wk1).mono ?_
 rintro e uk1 ⟨rfl,hbk1⟩
 refine hK.out _ _ hbk1 (fun hS=>?_)
 clear hK K hbk1
 refine' zax 14 hA rfl (by kernel_rfl) (by kernel_rfl) (by kernel_rfl) hS (by kernel_rfl) rfl (by intro h;cases h) i1 sz1 on1 ?_ ?_
 rotate_left 1
 ·intro g;simp only [List.set_cons_succ,List.set_cons_zero];rfl
 intro gk1 Wk1 hgk1 hbk1 hrowk1
 clear hA hS
 refine wpAnyH_done (by kernel_rfl) ?_ _
 refine NoPanic.normal ?_
 (try simp only [Act.put])
 have HRk1:Hid (RowsW Wk1 [(gk1,V1,153),(gk0,V0,153),(W.heap.size+1,#[.int .u64 0,.int .u64 0,.int .u64 0,.int .u64 0,.int .u64 0],63),(W.heap.size,La,63)]):=yh ⟨hrowk1,HRk0.out.below hbk1⟩
 have HBk1:=yh (zaa HBk0.out hbk1)
 clear hgk1 hbk1 hrowk1
 go_upto_region 5 with fail
 refine wp_region_noPanic ?_
 refine zai 14 9 153 #[.int .u64 0,.int .u64 0] (by kernel_rfl) (by kernel_rfl) ⟨by kernel_rfl,by kernel_rfl,hzw,fun _ _ _ h=>h⟩ (fun hA hS=>?_)
 refine' yD 0 hA hS ?_
 refine' yD 1 hA hS ?_
 refine' yD 2 hA hS ?_ (hy:=by intro X hSX;have hc:X.cell? ⟨W.heap.size,2,none⟩=some (.int .u64 (a2:Int)):=by { rw [cell_of_row _ _ _ _ _ _ (HRk1.out.below hSX).tail.tail.tail.head,HLa.out];rfl };go_simp;try with_reducible rfl)
 refine' yD 4 hA hS ?_
 refine' yD 5 hA hS ?_ (hy:=by intro X hSX;have hc:X.cell? ⟨W.heap.size,1,none⟩=some (.int .u64 (a1:Int)):=by { rw [cell_of_row _ _ _ _ _ _ (HRk1.out.below hSX).tail.tail.tail.head,HLa.out];rfl };go_simp;try with_reducible rfl)
 refine' yD 6 hA hS ?_
 refine' yD 7 hA hS ?_ (hy:=by intro X hSX;have hc:X.cell? ⟨W.heap.size,1,none⟩=some (.int .u64 (a1:Int)):=by { rw [cell_of_row _ _ _ _ _ _ (HRk1.out.below hSX).tail.tail.tail.head,HLa.out];rfl };go_simp;try with_reducible rfl)
 refine' yD 9 hA hS ?_
 refine' yD 10 hA hS ?_ (hy:=by intro X hSX;have hc:X.cell? ⟨W.heap.size,3,none⟩=some (.int .u64 (a3:Int)):=by { rw [cell_of_row _ _ _ _ _ _ (HRk1.out.below hSX).tail.tail.tail.head,HLa.out];rfl };go_simp;try with_reducible rfl)
 refine' yD 11 hA hS ?_
 refine' yD 12 hA hS ?_
 refine xE 3 hA hS (fun ok2 Wk2 hS K hK=>?_)
 go_simp
 with_reducible refine (H2_0.out Wk2).mono ?_
 rintro e uk2 ⟨rfl,hbk2⟩
 refine hK.out _ _ hbk2 (fun hS=>?_)
 clear hK K hbk2
 refine xE 8 hA hS (fun ok2 Wk2 hS K hK=>?_)
 go_simp
 with_reducible refine (H2_1.out Wk2).mono ?_
 rintro e uk2 ⟨rfl,hbk2⟩
 refine hK.out _ _ hbk2 (fun hS=>?_)
 clear hK K hbk2
 refine xE 13 hA hS (fun ok2 Wk2 hS K hK=>?_)
 go_simp
 with_reducible refine (H2_2.out Wk2).mono ?_
 rintro e uk2 ⟨rfl,hbk2⟩
 refine hK.out _ _ hbk2 (fun hS=>?_)
 clear hK K hbk2
 refine' zax 15 hA rfl (by kernel_rfl) (by kernel_rfl) (by kernel_rfl) hS (by kernel_rfl) rfl (by intro h;cases h) i2 sz2 on2 ?_ ?_
 rotate_left 1
 ·intro g;simp only [List.set_cons_succ,List.set_cons_zero];rfl
 intro gk2 Wk2 hgk2 hbk2 hrowk2
 clear hA hS
 refine wpAnyH_done (by kernel_rfl) ?_ _
 refine NoPanic.normal ?_
 (try simp only [Act.put])
 have HRk2:Hid (RowsW Wk2 [(gk2,V2,153),(gk1,V1,153),(gk0,V0,153),(W.heap.size+1,#[.int .u64 0,.int .u64 0,.int .u64 0,.int .u64 0,.int .u64 0],63),(W.heap.size,La,63)]):=yh ⟨hrowk2,HRk1.out.below hbk2⟩
 have HBk2:=yh (zaa HBk1.out hbk2)
 clear hgk2 hbk2 hrowk2
 go_upto_region 6 with fail
 refine wp_region_noPanic ?_
 refine zai 12 10 153 #[.int .u64 0,.int .u64 0] (by kernel_rfl) (by kernel_rfl) ⟨by kernel_rfl,by kernel_rfl,hzw,fun _ _ _ h=>h⟩ (fun hA hS=>?_)
 refine' yD 0 hA hS ?_
 refine' yD 1 hA hS ?_
 refine' yD 2 hA hS ?_ (hy:=by intro X hSX;have hc:X.cell? ⟨W.heap.size,3,none⟩=some (.int .u64 (a3:Int)):=by { rw [cell_of_row _ _ _ _ _ _ (HRk2.out.below hSX).tail.tail.tail.tail.head,HLa.out];rfl };go_simp;try with_reducible rfl)
 refine' yD 4 hA hS ?_
 refine' yD 5 hA hS ?_
 refine' yD 6 hA hS ?_ (hy:=by intro X hSX;have hc:X.cell? ⟨W.heap.size,2,none⟩=some (.int .u64 (a2:Int)):=by { rw [cell_of_row _ _ _ _ _ _ (HRk2.out.below hSX).tail.tail.tail.tail.head,HLa.out];rfl };go_simp;try with_reducible rfl)
 refine' yD 8 hA hS ?_
 refine' yD 9 hA hS ?_ (hy:=by intro X hSX;have hc:X.cell? ⟨W.heap.size,4,none⟩=some (.int .u64 (a4:Int)):=by { rw [cell_of_row _ _ _ _ _ _ (HRk2.out.below hSX).tail.tail.tail.tail.head,HLa.out];rfl };go_simp;try with_reducible rfl)
 refine' yD 10 hA hS ?_
 refine xE 3 hA hS (fun ok3 Wk3 hS K hK=>?_)
 go_simp
 with_reducible refine (H3_0.out Wk3).mono ?_
 rintro e uk3 ⟨rfl,hbk3⟩
 refine hK.out _ _ hbk3 (fun hS=>?_)
 clear hK K hbk3
 refine xE 7 hA hS (fun ok3 Wk3 hS K hK=>?_)
 go_simp
 with_reducible refine (H3_1.out Wk3).mono ?_
 rintro e uk3 ⟨rfl,hbk3⟩
 refine hK.out _ _ hbk3 (fun hS=>?_)
 clear hK K hbk3
 refine xE 11 hA hS (fun ok3 Wk3 hS K hK=>?_)
 go_simp
 with_reducible refine (H3_2.out Wk3).mono ?_
 rintro e uk3 ⟨rfl,hbk3⟩
 refine hK.out _ _ hbk3 (fun hS=>?_)
 clear hK K hbk3
 refine' zax 13 hA rfl (by kernel_rfl) (by kernel_rfl) (by kernel_rfl) hS (by kernel_rfl) rfl (by intro h;cases h) i3 sz3 on3 ?_ ?_
 rotate_left 1
 ·intro g;simp only [List.set_cons_succ,List.set_cons_zero];rfl
 intro gk3 Wk3 hgk3 hbk3 hrowk3
 clear hA hS
 refine wpAnyH_done (by kernel_rfl) ?_ _
 refine NoPanic.normal ?_
 (try simp only [Act.put])
 have HRk3:Hid (RowsW Wk3 [(gk3,V3,153),(gk2,V2,153),(gk1,V1,153),(gk0,V0,153),(W.heap.size+1,#[.int .u64 0,.int .u64 0,.int .u64 0,.int .u64 0,.int .u64 0],63),(W.heap.size,La,63)]):=yh ⟨hrowk3,HRk2.out.below hbk3⟩
 have HBk3:=yh (zaa HBk2.out hbk3)
 clear hgk3 hbk3 hrowk3
 go_upto_region 7 with fail
 refine wp_region_noPanic ?_
 refine zai 13 11 153 #[.int .u64 0,.int .u64 0] (by kernel_rfl) (by kernel_rfl) ⟨by kernel_rfl,by kernel_rfl,hzw,fun _ _ _ h=>h⟩ (fun hA hS=>?_)
 refine' yD 0 hA hS ?_
 refine' yD 1 hA hS ?_
 refine' yD 2 hA hS ?_ (hy:=by intro X hSX;have hc:X.cell? ⟨W.heap.size,4,none⟩=some (.int .u64 (a4:Int)):=by { rw [cell_of_row _ _ _ _ _ _ (HRk3.out.below hSX).tail.tail.tail.tail.tail.head,HLa.out];rfl };go_simp;try with_reducible rfl)
 refine' yD 4 hA hS ?_
 refine' yD 5 hA hS ?_
 refine' yD 6 hA hS ?_ (hy:=by intro X hSX;have hc:X.cell? ⟨W.heap.size,3,none⟩=some (.int .u64 (a3:Int)):=by { rw [cell_of_row _ _ _ _ _ _ (HRk3.out.below hSX).tail.tail.tail.tail.tail.head,HLa.out];rfl };go_simp;try with_reducible rfl)
 refine' yD 8 hA hS ?_
 refine' yD 9 hA hS ?_ (hy:=by intro X hSX;have hc:X.cell? ⟨W.heap.size,2,none⟩=some (.int .u64 (a2:Int)):=by { rw [cell_of_row _ _ _ _ _ _ (HRk3.out.below hSX).tail.tail.tail.tail.tail.head,HLa.out];rfl };go_simp;try with_reducible rfl)
 refine' yD 10 hA hS ?_
 refine' yD 11 hA hS ?_ (hy:=by intro X hSX;have hc:X.cell? ⟨W.heap.size,2,none⟩=some (.int .u64 (a2:Int)):=by { rw [cell_of_row _ _ _ _ _ _ (HRk3.out.below hSX).tail.tail.tail.tail.tail.head,HLa.out];rfl };go_simp;try with_reducible rfl)
 refine xE 3 hA hS (fun ok4 Wk4 hS K hK=>?_)
 go_simp
 with_reducible refine (H4_0.out Wk4).mono ?_
 rintro e uk4 ⟨rfl,hbk4⟩
 refine hK.out _ _ hbk4 (fun hS=>?_)
 clear hK K hbk4
 refine xE 7 hA hS (fun ok4 Wk4 hS K hK=>?_)
 go_simp
 with_reducible refine (H4_1.out Wk4).mono ?_
 rintro e uk4 ⟨rfl,hbk4⟩
 refine hK.out _ _ hbk4 (fun hS=>?_)
 clear hK K hbk4
 refine xE 12 hA hS (fun ok4 Wk4 hS K hK=>?_)
 go_simp
 with_reducible refine (H4_2.out Wk4).mono ?_
 rintro e uk4 ⟨rfl,hbk4⟩
 refine hK.out _ _ hbk4 (fun hS=>?_)
 clear hK K hbk4
 refine' zax 14 hA rfl (by kernel_rfl) (by kernel_rfl) (by kernel_rfl) hS (by kernel_rfl) rfl (by intro h;cases h) i4 sz4 on4 ?_ ?_
 rotate_left 1
 ·intro g;simp only [List.set_cons_succ,List.set_cons_zero];rfl
 intro gk4 Wk4 hgk4 hbk4 hrowk4
 clear hA hS
 refine wpAnyH_done (by kernel_rfl) ?_ _
 refine NoPanic.normal ?_
 (try simp only [Act.put])
 have HRk4:Hid (RowsW Wk4 [(gk4,V4,153),(gk3,V3,153),(gk2,V2,153),(gk1,V1,153),(gk0,V0,153),(W.heap.size+1,#[.int .u64 0,.int .u64 0,.int .u64 0,.int .u64 0,.int .u64 0],63),(W.heap.size,La,63)]):=yh ⟨hrowk4,HRk3.out.below hbk4⟩
 have HBk4:=yh (zaa HBk3.out hbk4)
 clear hgk4 hbk4 hrowk4
 go_upto_region 8 with fail
 have l0:=HRk4.out.tail.tail.tail.tail.head
 have l1:=HRk4.out.tail.tail.tail.head
 have l2:=HRk4.out.tail.tail.head
 have l3:=HRk4.out.tail.head
 have l4:=HRk4.out.head
 go_wp2_with (first | (refine zaj (o:=⟨some 89,_,_,_,_,_⟩) rfl (.agg V0) (zad rfl rfl l0 Tryz.underlying153 rfl i0) ?_) | (refine zaj (o:=⟨some 90,_,_,_,_,_⟩) rfl (.agg V1) (zad rfl rfl l1 Tryz.underlying153 rfl i1) ?_) | (refine zaj (o:=⟨some 91,_,_,_,_,_⟩) rfl (.agg V2) (zad rfl rfl l2 Tryz.underlying153 rfl i2) ?_) | (refine zaj (o:=⟨some 92,_,_,_,_,_⟩) rfl (.agg V3) (zad rfl rfl l3 Tryz.underlying153 rfl i3) ?_) | (refine zaj (o:=⟨some 93,_,_,_,_,_⟩) rfl (.agg V4) (zad rfl rfl l4 Tryz.underlying153 rfl i4) ?_))
 with_reducible refine (HN.out _).mono ?_
 rintro e w2 ⟨S,rfl,hR,hb2⟩
 have hr2:=(HRk4.out.below hb2).tail.tail.tail.tail.tail.head
 have iS:=feR_info hR
 have sS:=feR_size hR
 have oS:=feR_one hR
 have HP:Hid (∀ w',Below W.heap.size W w'→RetFe feR W nn (.returned (.agg S)) w'):=yh fun w' hb=>⟨S,rfl,hR,hb⟩
 have HE:Hid (Below W.heap.size W (w2.setRow (W.heap.size+1) S)):=yh (zac (zaa HBk4.out hb2) (by omega))
 clear hb2 hR
 go_wp2_with (refine yj S hr2 iS sS oS ?_)
 (try simp only [Exit.inBlock,Exit.then])
 refine bodyPost_ret (results_cell_row rfl _ _ (W.heap.size+1) _ S _ _ rfl (setRow_heap w2 _ _ _ _ _ hr2) Tryz.underlying63 rfl iS) rfl ?_
 exact HP.out _ HE.out
end Go.Proofs.YtkgodlcnoenmbaaGreat
