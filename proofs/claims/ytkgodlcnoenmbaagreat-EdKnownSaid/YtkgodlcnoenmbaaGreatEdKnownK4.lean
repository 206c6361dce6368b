/-
  A part of what the proof of EdKnown rests on: plain lemmas and contracts of the functions that it calls. No conditions but what each theorem states.
-/
import Derived.Test.YtkgodlcnoenmbaaGreatEdKnownK3
import Derived.Laws.IdiomCopy
namespace Go.Proofs.YtkgodlcnoenmbaaGreat
open Go.RowKit
set_option linter.unusedVariables false
set_option maxRecDepth 100000
theorem and1u (q:Nat) (h:q<18446744073709551616):bits .and .u64 (q:Int) 1=((q % 2:Nat):Int):=by
 have:=u64_and_nat q 1 h (by omega)
 rwa [Nat.and_one_is_mod] at this
def redA (x:Nat):Array Value:=limb5 (x % M51) (x/M51 % M51) (x/M102 % M51) (x/M153 % M51) (x/M204 % M51)
theorem redA_of {r0 r1 r2 r3 r4 x:Nat} (h0:r0<M51) (h1:r1<M51) (h2:r2<M51) (h3:r3<M51) (h4:r4<M51) (h:val5 r0 r1 r2 r3 r4=x):limb5 r0 r1 r2 r3 r4=redA x:=by
 have hx:=val5_lim h0 h1 h2 h3 h4
 rw [h] at hx
 have hv:=val5_bits x
 rw [Nat.mod_eq_of_lt hx,← h] at hv
 rw [h] at hv
 have m:=fun y:Nat=>Nat.mod_lt y (show M51 > 0 by decide)
 obtain ⟨e0,e1,e2,e3,e4⟩:=val5_inj (m _) (m _) (m _) (m _) h0 h1 h2 h3 (hv.trans h.symm)
 unfold redA
 rw [e0,e1,e2,e3,e4]
set_option maxHeartbeats 3200000 in
theorem reduced_any {c:Array Value} {x:Nat} (hx:feR c x) (W:World):Calls Tryz.prog 127 #[.agg c] W (RetV W (.agg (redA x))):=by
 obtain ⟨a0,a1,a2,a3,a4,rfl,ha0,ha1,ha2,ha3,ha4,rfl⟩:=hx
 have ja0:=ha0
 have ja1:=ha1
 have ja2:=ha2
 have ja3:=ha3
 have ja4:=ha4
 unfold L51 at ha0 ha1 ha2 ha3 ha4
 obtain ⟨k0,u0,v0,g0⟩:∃ k:Nat,(a0:Int)+19=(k:Int)∧k<4503599627370496∧k=a0+19:=⟨a0+19,by omega,by omega,rfl⟩
 obtain ⟨o1,p1,q1,g1o⟩:∃ o:Nat,(k0:Int)/2251799813685248=(o:Int)∧o<8192∧o=(a0+19)/M51:=⟨k0/2251799813685248,by omega,by omega,by rw [g0]⟩
 obtain ⟨k1,u1,v1,g1⟩:∃ k:Nat,(a1:Int)+(o1:Int)=(k:Int)∧k<4503599627370496∧k=a1+o1:=⟨a1+o1,by omega,by omega,rfl⟩
 obtain ⟨o2,p2,q2,g2o⟩:∃ o:Nat,(k1:Int)/2251799813685248=(o:Int)∧o<8192∧o=(a1+o1)/M51:=⟨k1/2251799813685248,by omega,by omega,by rw [g1]⟩
 obtain ⟨k2,u2,v2,g2⟩:∃ k:Nat,(a2:Int)+(o2:Int)=(k:Int)∧k<4503599627370496∧k=a2+o2:=⟨a2+o2,by omega,by omega,rfl⟩
 obtain ⟨o3,p3,q3,g3o⟩:∃ o:Nat,(k2:Int)/2251799813685248=(o:Int)∧o<8192∧o=(a2+o2)/M51:=⟨k2/2251799813685248,by omega,by omega,by rw [g2]⟩
 obtain ⟨k3,u3,v3,g3⟩:∃ k:Nat,(a3:Int)+(o3:Int)=(k:Int)∧k<4503599627370496∧k=a3+o3:=⟨a3+o3,by omega,by omega,rfl⟩
 obtain ⟨o4,p4,q4,g4o⟩:∃ o:Nat,(k3:Int)/2251799813685248=(o:Int)∧o<8192∧o=(a3+o3)/M51:=⟨k3/2251799813685248,by omega,by omega,by rw [g3]⟩
 obtain ⟨k4,u4,v4,g4⟩:∃ k:Nat,(a4:Int)+(o4:Int)=(k:Int)∧k<4503599627370496∧k=a4+o4:=⟨a4+o4,by omega,by omega,rfl⟩
 obtain ⟨o5,p5,q5,g5o⟩:∃ o:Nat,(k4:Int)/2251799813685248=(o:Int)∧o<8192∧o=(a4+o4)/M51:=⟨k4/2251799813685248,by omega,by omega,by rw [g4]⟩
 obtain ⟨m0,um,vm,gm⟩:∃ k:Nat,19*(o5:Int)=(k:Int)∧k<155649∧k=19*o5:=⟨19*o5,by omega,by omega,rfl⟩
 obtain ⟨l0,x0,y0,z0⟩:∃ k:Nat,(a0:Int)+(m0:Int)=(k:Int)∧k<4503599627370496∧k=a0+19*o5:=⟨a0+m0,by omega,by omega,by rw [gm]⟩
 obtain ⟨t0,s0,i0,j0⟩:∃ o:Nat,(l0:Int)/2251799813685248=(o:Int)∧o<8192∧o=l0/M51:=⟨l0/2251799813685248,by omega,by omega,rfl⟩
 obtain ⟨l1,x1,y1,z1⟩:∃ k:Nat,(a1:Int)+(t0:Int)=(k:Int)∧k<4503599627370496∧k=a1+l0/M51:=⟨a1+t0,by omega,by omega,by rw [j0]⟩
 obtain ⟨t1,s1,i1,j1⟩:∃ o:Nat,(l1:Int)/2251799813685248=(o:Int)∧o<8192∧o=l1/M51:=⟨l1/2251799813685248,by omega,by omega,rfl⟩
 obtain ⟨l2,x2,y2,z2⟩:∃ k:Nat,(a2:Int)+(t1:Int)=(k:Int)∧k<4503599627370496∧k=a2+l1/M51:=⟨a2+t1,by omega,by omega,by rw [j1]⟩
 obtain ⟨t2,s2,i2,j2⟩:∃ o:Nat,(l2:Int)/2251799813685248=(o:Int)∧o<8192∧o=l2/M51:=⟨l2/2251799813685248,by omega,by omega,rfl⟩
 obtain ⟨l3,x3,y3,z3⟩:∃ k:Nat,(a3:Int)+(t2:Int)=(k:Int)∧k<4503599627370496∧k=a3+l2/M51:=⟨a3+t2,by omega,by omega,by rw [j2]⟩
 obtain ⟨t3,s3,i3,j3⟩:∃ o:Nat,(l3:Int)/2251799813685248=(o:Int)∧o<8192∧o=l3/M51:=⟨l3/2251799813685248,by omega,by omega,rfl⟩
 obtain ⟨l4,x4,y4,z4⟩:∃ k:Nat,(a4:Int)+(t3:Int)=(k:Int)∧k<4503599627370496∧k=a4+l3/M51:=⟨a4+t3,by omega,by omega,by rw [j3]⟩
 have w0:=and51 l0 (by omega)
 have w1:=and51 l1 (by omega)
 have w2:=and51 l2 (by omega)
 have w3:=and51 l3 (by omega)
 have w4:=and51 l4 (by omega)
 have hv:=reduced_val ja0 ja1 ja2 ja3 ja4 g1o g2o g3o g4o g5o z0 z1 z2 z3 z4
 have hm:=fun y:Nat=>Nat.mod_lt y (show M51 > 0 by decide)
 have hA:=redA_of (hm l0) (hm l1) (hm l2) (hm l3) (hm l4) hv
 rw [← hA]
 unfold limb5
 have n0:=hm l0
 generalize l0 % M51=r0 at *
 have n1:=hm l1
 generalize l1 % M51=r1 at *
 have n2:=hm l2
 generalize l2 % M51=r2 at *
 have n3:=hm l3
 generalize l3 % M51=r3 at *
 have n4:=hm l4
 generalize l4 % M51=r4 at *
 clear hA hv hm ja0 ja1 ja2 ja3 ja4 gm g0 g1 g2 g3 g4 g1o g2o g3o g4o g5o z0 z1 z2 z3 z4 j0 j1 j2 j3
 have W0':Hid (bits .and .u64 (l0:Int) 2251799813685247=(r0:Int)):=yh w0
 clear w0 n0
 have W1':Hid (bits .and .u64 (l1:Int) 2251799813685247=(r1:Int)):=yh w1
 clear w1 n1
 have W2':Hid (bits .and .u64 (l2:Int) 2251799813685247=(r2:Int)):=yh w2
 clear w2 n2
 have W3':Hid (bits .and .u64 (l3:Int) 2251799813685247=(r3:Int)):=yh w3
 clear w3 n3
 have W4':Hid (bits .and .u64 (l4:Int) 2251799813685247=(r4:Int)):=yh w4
 clear w4 n4
 have Hu0:=yh u0
 clear u0
 have Hv0:=yh v0
 clear v0
 have Hp1:=yh p1
 clear p1
 have Hq1:=yh q1
 clear q1
 have Hu1:=yh u1
 clear u1
 have Hv1:=yh v1
 clear v1
 have Hp2:=yh p2
 clear p2
 have Hq2:=yh q2
 clear q2
 have Hu2:=yh u2
 clear u2
 have Hv2:=yh v2
 clear v2
 have Hp3:=yh p3
 clear p3
 have Hq3:=yh q3
 clear q3
 have Hu3:=yh u3
 clear u3
 have Hv3:=yh v3
 clear v3
 have Hp4:=yh p4
 clear p4
 have Hq4:=yh q4
 clear q4
 have Hu4:=yh u4
 clear u4
 have Hv4:=yh v4
 clear v4
 have Hp5:=yh p5
 clear p5
 have Hq5:=yh q5
 clear q5
 have Hum:=yh um
 clear um
 have Hvm:=yh vm
 clear vm
 have Hx0:=yh x0
 clear x0
 have Hy0:=yh y0
 clear y0
 have Hs0:=yh s0
 clear s0
 have Hi0:=yh i0
 clear i0
 have Hx1:=yh x1
 clear x1
 have Hy1:=yh y1
 clear y1
 have Hs1:=yh s1
 clear s1
 have Hi1:=yh i1
 clear i1
 have Hx2:=yh x2
 clear x2
 have Hy2:=yh y2
 clear y2
 have Hs2:=yh s2
 clear s2
 have Hi2:=yh i2
 clear i2
 have Hx3:=yh x3
 clear x3
 have Hy3:=yh y3
 clear y3
 have Hs3:=yh s3
 clear s3
 have Hi3:=yh i3
 clear i3
 have Hx4:=yh x4
 clear x4
 have Hy4:=yh y4
 clear y4
 have Hha0:=yh ha0
 clear ha0
 have Hha1:=yh ha1
 clear ha1
 have Hha2:=yh ha2
 clear ha2
 have Hha3:=yh ha3
 clear ha3
 have Hha4:=yh ha4
 clear ha4
 go_enter Tryz.func127,Tryz.ntmps127
 go_upto_region 1 with fail
 have u0:=Hu0.out
 have v0:=Hv0.out
 have p1:=Hp1.out
 have q1:=Hq1.out
 have ha0:=Hha0.out
 go_upto_region 2 with fail
 clear u0 v0 p1 q1 ha0
 have u1:=Hu1.out
 have v1:=Hv1.out
 have p2:=Hp2.out
 have q2:=Hq2.out
 have ha1:=Hha1.out
 have q1:=Hq1.out
 go_upto_region 3 with fail
 clear u1 v1 p2 q2 ha1 q1
 have u2:=Hu2.out
 have v2:=Hv2.out
 have p3:=Hp3.out
 have q3:=Hq3.out
 have ha2:=Hha2.out
 have q2:=Hq2.out
 go_upto_region 4 with fail
 clear u2 v2 p3 q3 ha2 q2
 have u3:=Hu3.out
 have v3:=Hv3.out
 have p4:=Hp4.out
 have q4:=Hq4.out
 have ha3:=Hha3.out
 have q3:=Hq3.out
 go_upto_region 5 with fail
 clear u3 v3 p4 q4 ha3 q3
 have u4:=Hu4.out
 have v4:=Hv4.out
 have p5:=Hp5.out
 have q5:=Hq5.out
 have ha4:=Hha4.out
 have q4:=Hq4.out
 go_upto_region 6 with fail
 clear u4 v4 p5 q5 ha4 q4
 have um:=Hum.out
 have vm:=Hvm.out
 have x0:=Hx0.out
 have y0:=Hy0.out
 have q5:=Hq5.out
 have ha0:=Hha0.out
 go_upto_region 7 with fail
 clear um vm x0 y0 q5 ha0
 have s0:=Hs0.out
 have i0:=Hi0.out
 have x1:=Hx1.out
 have y1:=Hy1.out
 have ha1:=Hha1.out
 go_upto_region 8 with fail
 clear s0 i0 x1 y1 ha1
 have s1:=Hs1.out
 have i1:=Hi1.out
 have x2:=Hx2.out
 have y2:=Hy2.out
 have ha2:=Hha2.out
 go_upto_region 9 with fail
 clear s1 i1 x2 y2 ha2
 have s2:=Hs2.out
 have i2:=Hi2.out
 have x3:=Hx3.out
 have y3:=Hy3.out
 have ha3:=Hha3.out
 go_upto_region 10 with fail
 clear s2 i2 x3 y3 ha3
 have s3:=Hs3.out
 have i3:=Hi3.out
 have x4:=Hx4.out
 have y4:=Hy4.out
 have ha4:=Hha4.out
 go_upto_region 11 with fail
 clear s3 i3 x4 y4 ha4
 have w0:=W0'.out
 have w1:=W1'.out
 have w2:=W2'.out
 have w3:=W3'.out
 have w4:=W4'.out
 go_wp2
 refine bodyPost_ret (v:=.agg #[.int .u64 (r0:Int),.int .u64 (r1:Int),.int .u64 (r2:Int),.int .u64 (r3:Int),.int .u64 (r4:Int)]) (by simp [results,Tryz.results127,go_sem]) rfl ⟨rfl,?_⟩
 exact ((Below.refl _ _).alloc (Nat.le_refl _) _).alloc (by simp) _
theorem eqL5 (a b c d e a' b' c' d' e':Nat) (u:World):(binOp .eql 63 (.agg (limb5 a b c d e)) (.agg (limb5 a' b' c' d' e'))).run Tryz.prog u=.ok (.bool (decide (a=a'∧b=b'∧c=c'∧d=d'∧e=e'))) u:=by
 rw [run_eql_struct,run_equalIn_struct _ 9999 _ _ _ (by kernel_rfl) (by kernel_rfl)]
 unfold limb5
 go_simp
 by_cases h0:a=a' <;> by_cases h1:b=b' <;> by_cases h2:c=c' <;> by_cases h3:d=d' <;> by_cases h4:e=e' <;> simp [h0,h1,h2,h3,h4,Int.natCast_inj]
theorem eqRed {x y:Nat} (hx:x<PP) (hy:y<PP) (u:World):(binOp .eql 63 (.agg (redA x)) (.agg (redA y))).run Tryz.prog u=.ok (.bool (decide (x=y))) u:=by
 unfold redA
 rw [eqL5]
 have e:(x % M51=y % M51∧x/M51 % M51=y/M51 % M51∧x/M102 % M51=y/M102 % M51∧x/M153 % M51=y/M153 % M51∧x/M204 % M51=y/M204 % M51)↔x=y:=by
  constructor
  ·rintro ⟨h0,h1,h2,h3,h4⟩
   have a:=val5_bits x
   have b:=val5_bits y
   rw [h0,h1,h2,h3,h4,b] at a
   rw [Nat.mod_eq_of_lt (show x<TT by unfold PP at hx;unfold TT;omega),Nat.mod_eq_of_lt (show y<TT by unfold PP at hy;unfold TT;omega)] at a
   exact a.symm
  ·intro h;subst h;exact ⟨rfl,rfl,rfl,rfl,rfl⟩
 rw [decide_eq_decide.2 e]
theorem fieldT (r0 r1 r2 r3 r4:Nat) (u:World):(Instr.field 63 (.agg #[.int .u64 (r0:Int),.int .u64 (r1:Int),.int .u64 (r2:Int),.int .u64 (r3:Int),.int .u64 (r4:Int)]) 0).run Tryz.prog u=.ok (.int .u64 (r0:Int)) u:=by kernel_rfl
theorem guardFe:Tryz.prog.eqGuardType Tryz.prog.depth 63=false:=by kernel_rfl
set_option maxHeartbeats 1600000 in
theorem feequal_any {c d:Array Value} {x y:Nat} (hx:feR c x) (hy:feR d y) (W:World):Calls Tryz.prog 124 #[.agg c,.agg d] W (RetV W (.bool (decide (x=y)))):=by
 have HX:Hid (∀ W':World,Calls Tryz.prog 127 #[.agg c] W' (RetV W' (.agg (redA x)))):=yh fun W'=>reduced_any hx W'
 have HY:Hid (∀ W':World,Calls Tryz.prog 127 #[.agg d] W' (RetV W' (.agg (redA y)))):=yh fun W'=>reduced_any hy W'
 have hxl:x<PP:=by obtain ⟨_,_,_,_,_,-,-,-,-,-,-,rfl⟩:=hx;exact Nat.mod_lt _ (by decide)
 have hyl:y<PP:=by obtain ⟨_,_,_,_,_,-,-,-,-,-,-,rfl⟩:=hy;exact Nat.mod_lt _ (by decide)
 have HE:Hid (∀ u:World,(binOp .eql 63 (.agg (redA x)) (.agg (redA y))).run Tryz.prog u=.ok (.bool (decide (x=y))) u):=yh fun u=>eqRed hxl hyl u
 have ic:=feR_info hx
 have id:=feR_info hy
 generalize decide (x=y)=b at *
 generalize redA x=X at *
 generalize redA y=Y at *
 clear hx hy hxl hyl
 have hrr:RowsW ((W.alloc (.cells c 63)).alloc (.cells d 63)) [(W.heap.size+1,d,63),(W.heap.size,c,63)]:=by have h:=(RowsW.box (RowsW.box (RowsW.nil W) c 63) d 63);simp only [World.size_alloc] at h;exact h
 obtain ⟨W1,hW1⟩:∃ W1,((W.alloc (.cells c 63)).alloc (.cells d 63))=W1:=⟨_,rfl⟩
 rw [hW1] at hrr
 have hb1:Below W.heap.size W W1:=by rw [← hW1];exact zab (zab (Below.refl _ _) _) _
 have HR:=yh hrr
 have HB1:=yh hb1
 have HW1:=yh hW1
 clear hrr hb1 hW1
 go_enter Tryz.func124,Tryz.ntmps124
 go_upto_region 1 with fail
 rw [HW1.out]
 refine wp_region_noPanic ?_
 refine wp_region_held_drew (S:=fun W=>Below W1.heap.size W1 W) (by kernel_rfl) (by exact (Below.refl _ _).drew) (fun hS=>?_)
 refine' yk 0  hS ?_ (hy:=fun W hSW=>zad rfl rfl (HR.out.below hSW).tail.head Tryz.underlying63 rfl ic)
 refine' yk 2  hS ?_ (hy:=fun W hSW=>zad rfl rfl (HR.out.below hSW).head Tryz.underlying63 rfl id)
 refine xk 1  (fun K hK=>?_)
 go_simp
 with_reducible refine (HX.out _).mono ?_
 rintro e u1 ⟨rfl,hb1⟩
 have kb1:=zaa hS hb1
 clear hS hb1
 refine hK.out _ _ (by exact kb1) (fun hS=>?_)
 clear hK K
 refine xk 3  (fun K hK=>?_)
 go_simp
 with_reducible refine (HY.out _).mono ?_
 rintro e u2 ⟨rfl,hb2⟩
 have kb2:=zaa hS hb2
 clear hS hb2
 refine hK.out _ _ (by exact kb2) (fun hS=>?_)
 clear hK K
 refine' yk 4  hS ?_ (hy:=fun W hSW=>run_eql2 rfl rfl rfl guardFe (HE.out W))
 refine' yk 5  hS ?_
 refine wpAnyH_done (by kernel_rfl) ?_ _
 refine NoPanic.normal ?_
 clear hS
 (try simp only [Act.put])
 have HB2:=yh (zaa HB1.out kb2)
 clear kb1 kb2
 go_wp2_with fail
 go_ret
 exact ⟨rfl,HB2.out⟩
set_option maxHeartbeats 1600000 in
theorem feiszero_any {c:Array Value} {x:Nat} (hx:feR c x) (W:World):Calls Tryz.prog 85 #[.agg c] W (RetV W (.bool (decide (x=0)))):=by
 have HX:Hid (∀ W':World,Calls Tryz.prog 127 #[.agg c] W' (RetV W' (.agg (redA x)))):=yh fun W'=>reduced_any hx W'
 have hxl:x<PP:=by obtain ⟨_,_,_,_,_,-,-,-,-,-,-,rfl⟩:=hx;exact Nat.mod_lt _ (by decide)
 have HE:Hid (∀ u:World,(binOp .eql 63 (.agg (redA x)) (.agg (#[.int .u64 0,.int .u64 0,.int .u64 0,.int .u64 0,.int .u64 0]))).run Tryz.prog u=.ok (.bool (decide (x=0))) u):=yh fun u=>by
  have h:=eqRed hxl (show 0<PP by decide) u
  exact h
 have ic:=feR_info hx
 have hrc:(W.alloc (.cells c 63)).heap[W.heap.size]?=some (.cells c 63 (0,0)):=heap_alloc_new _ _
 have HB:Hid (Below W.heap.size W (W.alloc (.cells c 63))):=yh (zab (Below.refl _ _) _)
 generalize decide (x=0)=b at *
 generalize redA x=X at *
 clear hx hxl
 go_enter Tryz.func85,Tryz.ntmps85
 go_wp2_with (refine yi hrc Tryz.underlying63 ic ?_)
 with_reducible refine (HX.out _).mono ?_
 rintro e w2 ⟨rfl,hb2⟩
 have HB2:=yh (zaa HB.out hb2)
 clear hb2
 go_wp2_with (refine zaj (o:=⟨some 6,_,_,_,_,_⟩) rfl (.bool b) (run_eql2 rfl rfl rfl guardFe (HE.out _)) ?_)
 go_ret
 exact ⟨rfl,HB2.out⟩
set_option maxHeartbeats 1600000 in
theorem feodd_any {c:Array Value} {x:Nat} (hx:feR c x) (W:World):Calls Tryz.prog 95 #[.agg c] W (RetV W (.bool (decide (x % 2=1)))):=by
 have HX:Hid (∀ W':World,Calls Tryz.prog 127 #[.agg c] W' (RetV W' (.agg (redA x)))):=yh fun W'=>reduced_any hx W'
 have ic:=feR_info hx
 have hrc:(W.alloc (.cells c 63)).heap[W.heap.size]?=some (.cells c 63 (0,0)):=heap_alloc_new _ _
 have HB:Hid (Below W.heap.size W (W.alloc (.cells c 63))):=yh (zab (Below.refl _ _) _)
 have h1:=and1u (x % M51) (by unfold M51;omega)
 rw [show x % M51 % 2=x % 2 by unfold M51;omega] at h1
 have h2:decide (x % 2=1)=(((x % 2:Nat):Int) == 1):=by
  have:x % 2<2:=Nat.mod_lt _ (by omega)
  generalize x % 2=r at *
  have:r=0∨r=1:=by omega
  rcases this with rfl | rfl <;> rfl
 rw [h2]
 unfold redA limb5 at HX
 generalize x % 2=r at *
 generalize x % M51=r0 at *
 generalize x/M51 % M51=r1 at *
 generalize x/M102 % M51=r2 at *
 generalize x/M153 % M51=r3 at *
 generalize x/M204 % M51=r4 at *
 clear hx h2
 have hf:=fun u:World=>fieldT r0 r1 r2 r3 r4 u
 go_enter Tryz.func95,Tryz.ntmps95
 go_wp2_with (refine yi hrc Tryz.underlying63 ic ?_)
 with_reducible refine (HX.out _).mono ?_
 rintro e w2 ⟨rfl,hb2⟩
 have HB2:=yh (zaa HB.out hb2)
 clear hb2
 go_wp2_with fail
 go_ret
 exact ⟨rfl,HB2.out⟩
end Go.Proofs.YtkgodlcnoenmbaaGreat
namespace Go.Proofs.YtkgodlcnoenmbaaGreat
open Go.RowKit
set_option linter.unusedVariables false
set_option maxRecDepth 100000
set_option maxHeartbeats 3200000 in
theorem fefrom_any (l:List UInt8) (hl:l.length=32) (w:World):Calls Tryz.prog 77 #[.agg (arrB l)] w (RetFe feR w (feN l)):=by
 have hz4:=fun u=>zero_arr 75 #[.int .u64 0,.int .u64 0,.int .u64 0,.int .u64 0] 4 (by kernel_rfl) u
 have HX:Hid (∀ k:Nat,k<32→∀ u,(Instr.index 22 (.agg (arrB l)) (.int .i64 (k:Int))).run Tryz.prog u=.ok (.int .u8 ((l.getD k 0).toNat:Int)) u):=yh fun k hk u=>arr_at hl k hk u
 have iB:=zaf hl
 have HL:=yh hl
 obtain ⟨BB,hBB⟩:∃ X,arrB l=X:=⟨_,rfl⟩
 rw [hBB] at HX iB ⊢
 have hI:Tri 22 63 75 w (((w.alloc (.cells BB 22)).alloc (.cells #[.int .u64 0,.int .u64 0,.int .u64 0,.int .u64 0,.int .u64 0] 63)).alloc (.cells #[.int .u64 0,.int .u64 0,.int .u64 0,.int .u64 0] 75)) w.heap.size BB #[.int .u64 0,.int .u64 0,.int .u64 0,.int .u64 0,.int .u64 0] (wdA (leN (l.take 0))):=by
  refine ⟨?_,?_,?_,((((Below.refl w.heap.size w).alloc (Nat.le_refl _) _).alloc (by simp) _).alloc (by simp;omega) _)⟩
  ·rw [heap_alloc_old _ _ (by rw [World.size_alloc,World.size_alloc];omega)];exact heap_alloc2_old _ _ _
  ·rw [heap_alloc_old _ _ (by rw [World.size_alloc,World.size_alloc];omega)];exact heap_alloc2_new _ _ _
  ·have h:=tri_new w BB #[.int .u64 0,.int .u64 0,.int .u64 0,.int .u64 0,.int .u64 0] #[.int .u64 0,.int .u64 0,.int .u64 0,.int .u64 0] 22 63 75
   rw [show wdA (leN (l.take 0))=#[.int .u64 0,.int .u64 0,.int .u64 0,.int .u64 0] by rw [List.take_zero];exact wdA_zero]
   exact h
 have hrb:(((w.alloc (.cells BB 22)).alloc (.cells #[.int .u64 0,.int .u64 0,.int .u64 0,.int .u64 0,.int .u64 0] 63)).alloc (.cells #[.int .u64 0,.int .u64 0,.int .u64 0,.int .u64 0] 75)).heap[w.heap.size]?=some (.cells BB 22 (0,0)):=hI.x
 have HI:=yh hI
 clear hI hBB hl
 go_enter Tryz.func77,Tryz.ntmps77
 go_wp2_with (refine yi hrb Tryz.underlying22 iB ?_)
 obtain ⟨W1,hW1⟩:∃ W,((w.alloc (.cells BB 22)).alloc (.cells #[.int .u64 0,.int .u64 0,.int .u64 0,.int .u64 0,.int .u64 0] 63)).alloc (.cells #[.int .u64 0,.int .u64 0,.int .u64 0,.int .u64 0] 75)=W:=⟨_,rfl⟩
 obtain ⟨g,hg⟩:∃ g,w.heap.size=g:=⟨_,rfl⟩
 rw [hg,hW1] at HI
 rw [hg,hW1]
 have HG:=yh hg
 clear hW1 hg hrb
 go_loopw [7] (fun i wr=>∃ k:Nat,k≤32∧i=.int .i64 (k:Int)∧Hid (Tri 22 63 75 w wr g BB #[.int .u64 0,.int .u64 0,.int .u64 0,.int .u64 0,.int .u64 0] (wdA (leN (l.take k))))) (fun i _=>32-(intOf i).toNat)
 case atStart=>exact ⟨0,by omega,rfl,HI⟩
 case round =>
  clear HI
  obtain ⟨k,hk,rfl,HI⟩:=hrel
  by_cases hlt:k<32
  ·have hx:=HX.out k hlt
   obtain ⟨b,hb⟩:∃ b,(l.getD k 0).toNat=b:=⟨_,rfl⟩
   have hbl:b<256:=by rw [← hb];exact (l.getD k 0).toNat_lt
   obtain ⟨n,hn⟩:∃ n,leN (l.take k)=n:=⟨_,rfl⟩
   have hnl:n<256^k:=by rw [← hn];exact leN_take_lt l k (by rw [HL.out];omega)
   have hn1:leN (l.take (k+1))=n+b*256^k:=by rw [leN_take l k (by rw [HL.out];omega),hn,hb]
   obtain ⟨s1,s2,s3,s4⟩:=word_step n b k hlt hnl hbl
   have hd4:k/8<4:=by omega
   rw [hn] at HI
   rw [hb] at hx
   obtain ⟨d,hd⟩:∃ d,k/8=d:=⟨_,rfl⟩
   obtain ⟨r,hr⟩:∃ r,k % 8=r:=⟨_,rfl⟩
   obtain ⟨e,he⟩:∃ e,r*8=e:=⟨_,rfl⟩
   rw [hd,hr,he] at s1 s3
   rw [hr,he] at s2
   rw [hd] at s4
   rw [hd] at hd4
   have hel:e<57:=by omega
   have hs4:=wdA_set n (n+b*256^k) d hd4 (fun j hj hne=>s4 j hj hne)
   rw [s3] at hs4
   have cz:wr.cell? ⟨g+1+1,d,none⟩=some (.int .u64 (wq n d:Int)):=by rw [cell_of_row _ _ _ _ _ _ HI.out.z,wdA_get _ _ hd4]
   have fx:=HI.out.fz d
   have hw:=wq_lt n d
   have f7:=or_low (wq n d) b e s1 hw s2
   have HI2:Hid (Tri 22 63 75 w (wr.drew.setCell ⟨g+1+1,d,none⟩ (.int .u64 ((wq n d+2^e*b:Nat):Int))) g BB #[.int .u64 0,.int .u64 0,.int .u64 0,.int .u64 0,.int .u64 0] (wdA (leN (l.take (k+1))))):=yh (by
    rw [hn1,← hs4]
    exact (HI.out.drew).set d _)
   have f6:IntKind.u64.wrap ((b:Int)*2^e)=((2^e*b:Nat):Int):=by
    rw [IntKind.wrap_u64,show (b:Int)*2^e=((2^e*b:Nat):Int) by rw [Int.natCast_mul,Int.mul_comm];simp]
    unfold Q64 at s2
    omega
   generalize 2^e*b=m at *
   obtain ⟨o,ho⟩:∃ o,wq n d+m=o:=⟨_,rfl⟩
   rw [ho] at f7 HI2
   generalize wq n d=q at *
   have f1:(k:Int).tdiv 8=(d:Int):=by rw [Int.tdiv_eq_ediv_of_nonneg (by omega)];omega
   have f1':(k:Int)/8=(d:Int):=by omega
   have f2:IntKind.i64.wrap (d:Int)=(d:Int):=by rw [IntKind.wrap_i64];omega
   have f3:(k:Int).tmod 8=(r:Int):=by rw [Int.tmod_eq_emod_of_nonneg (by omega)];omega
   have f3':(k:Int) % 8=(r:Int):=by omega
   have f4:(r:Int)*8=(e:Int):=by omega
   have f5:IntKind.i64.wrap (e:Int)=(e:Int):=by rw [IntKind.wrap_i64];omega
   have f8:IntKind.u64.wrap (b:Int)=(b:Int):=by rw [IntKind.wrap_u64];omega
   have b1:0≤(d:Int):=by omega
   have b2:(d:Int)<4:=by omega
   have b3:0≤(e:Int):=by omega
   have b5:0≤(k:Int):=by omega
   have b6:(k:Int)<32:=by omega
   clear HI hb hbl hn hnl hn1 s1 s2 s3 s4 hd hr he hs4 hw ho
   go_wp2_with fail
   refine wp_region_still_tail 11 (by kernel_rfl) (by kernel_rfl) ?_
   simp only [List.take_succ_cons,List.take_zero,List.drop_succ_cons,List.drop_zero]
   iterate 11 still_step
   refine wpStill_nil ?_
   go_wp2_with fail
   go_roundw
   case rel=>exact ⟨k+1,by omega,by go_num,HI2⟩
   case measure=>simp [intOf];omega
  ·obtain rfl:k=32:=by omega
   have hV:l.take 32=l:=List.take_of_length_le (by rw [HL.out];omega)
   rw [hV] at HI
   have hVl:leN l<256^32:=by have:=leN_lt l;rwa [HL.out] at this
   have hbits:val5 (leN l % M51) (leN l/M51 % M51) (leN l/M102 % M51) (leN l/M153 % M51) (leN l/M204 % M51) % PP=feN l:=by rw [val5_bits];rfl
   generalize leN l=V at *
   obtain ⟨t0,t1,t2,t3,t4⟩:=from_limbs V hVl
   have c0:wr.cell? ⟨g+1+1,0,none⟩=some (.int .u64 (wq V 0:Int)):=by rw [cell_of_row _ _ _ _ _ _ HI.out.z];rfl
   have c1:wr.cell? ⟨g+1+1,1,none⟩=some (.int .u64 (wq V 1:Int)):=by rw [cell_of_row _ _ _ _ _ _ HI.out.z];rfl
   have c2:wr.cell? ⟨g+1+1,2,none⟩=some (.int .u64 (wq V 2:Int)):=by rw [cell_of_row _ _ _ _ _ _ HI.out.z];rfl
   have c3:wr.cell? ⟨g+1+1,3,none⟩=some (.int .u64 (wq V 3:Int)):=by rw [cell_of_row _ _ _ _ _ _ HI.out.z];rfl
   have w0:=wq_lt V 0
   have w1:=wq_lt V 1
   have w2:=wq_lt V 2
   have w3:=wq_lt V 3
   have hm:=fun y:Nat=>Nat.mod_lt y (show M51 > 0 by decide)
   have hR:feR (limb5 (V % M51) (V/M51 % M51) (V/M102 % M51) (V/M153 % M51) (V/M204 % M51)) (feN l):=⟨_,_,_,_,_,rfl,by have:=hm V;unfold L51;unfold M51 at *;omega,by have:=hm (V/M51);unfold L51;unfold M51 at *;omega,by have:=hm (V/M102);unfold L51;unfold M51 at *;omega,by have:=hm (V/M153);unfold L51;unfold M51 at *;omega,by have:=hm (V/M204);unfold L51;unfold M51 at *;omega,hbits⟩
   rw [← t0,← t1,← t2,← t3,← t4] at hR
   unfold Q64 at w0 w1 w2 w3
   unfold M51 at hR
   have HP:Hid (∀ c w',c=#[.int .u64 ((wq V 0 % 2251799813685248:Nat):Int),.int .u64 (((wq V 0/2251799813685248+2^13*(wq V 1 % 2251799813685248)) % 2251799813685248:Nat):Int),.int .u64 (((wq V 1/274877906944+2^26*(wq V 2 % 274877906944)) % 2251799813685248:Nat):Int),.int .u64 (((wq V 2/33554432+2^39*(wq V 3 % 33554432)) % 2251799813685248:Nat):Int),.int .u64 ((wq V 3/4096 % 2251799813685248:Nat):Int)] →
     Below w.heap.size w w'→RetFe feR w (feN l) (.returned (.agg c)) w'):=yh fun c w' e hb=>⟨c,rfl,by rw [e];exact hR,hb⟩
   clear hR t0 t1 t2 t3 t4 hm hbits hVl hV
   generalize wq V 0=p0 at *
   generalize wq V 1=p1 at *
   generalize wq V 2=p2 at *
   generalize wq V 3=p3 at *
   have e1:=or_low (p0/2251799813685248) (p1 % 2251799813685248) 13 (by omega) (by omega) (by omega)
   have e2:=or_low (p1/274877906944) (p2 % 274877906944) 26 (by omega) (by omega) (by omega)
   have e3:=or_low (p2/33554432) (p3 % 33554432) 39 (by omega) (by omega) (by omega)
   have d1:(p0:Int)/2251799813685248=((p0/2251799813685248:Nat):Int):=by omega
   have d2:(p1:Int)/274877906944=((p1/274877906944:Nat):Int):=by omega
   have d3:(p2:Int)/33554432=((p2/33554432:Nat):Int):=by omega
   have d4:(p3:Int)/4096=((p3/4096:Nat):Int):=by omega
   have m1:IntKind.u64.wrap ((p1:Int)*8192)=((2^13*(p1 % 2251799813685248):Nat):Int):=by rw [IntKind.wrap_u64];omega
   have m2:IntKind.u64.wrap ((p2:Int)*67108864)=((2^26*(p2 % 274877906944):Nat):Int):=by rw [IntKind.wrap_u64];omega
   have m3:IntKind.u64.wrap ((p3:Int)*549755813888)=((2^39*(p3 % 33554432):Nat):Int):=by rw [IntKind.wrap_u64];omega
   have k1:p0/2251799813685248+2^13*(p1 % 2251799813685248)<18446744073709551616:=by omega
   have k2:p1/274877906944+2^26*(p2 % 274877906944)<18446744073709551616:=by omega
   have k3:p2/33554432+2^39*(p3 % 33554432)<18446744073709551616:=by omega
   have k4:p3/4096<18446744073709551616:=by omega
   have a0:=and51 p0 w0
   have a1:=and51 _ k1
   have a2:=and51 _ k2
   have a3:=and51 _ k3
   have a4:=and51 _ k4
   generalize (p0/2251799813685248+2^13*(p1 % 2251799813685248))=j1 at *
   generalize (p1/274877906944+2^26*(p2 % 274877906944))=j2 at *
   generalize (p2/33554432+2^39*(p3 % 33554432))=j3 at *
   generalize 2^13*(p1 % 2251799813685248)=s1 at *
   generalize 2^26*(p2 % 274877906944)=s2 at *
   generalize 2^39*(p3 % 33554432)=s3 at *
   generalize p0/2251799813685248=h1 at *
   generalize p1/274877906944=h2 at *
   generalize p2/33554432=h3 at *
   generalize p3/4096=h4 at *
   generalize p0 % 2251799813685248=r0 at *
   generalize j1 % 2251799813685248=r1 at *
   generalize j2 % 2251799813685248=r2 at *
   generalize j3 % 2251799813685248=r3 at *
   generalize h4 % 2251799813685248=r4 at *
   have hr:=HI.out.y
   have HB:Hid (Below w.heap.size w wr):=yh (by rw [HG.out];exact HI.out.below)
   have sS:(#[.int .u64 0,.int .u64 0,.int .u64 0,.int .u64 0,.int .u64 0]:Array Value).size=(#[.int .u64 (r0:Int),.int .u64 (r1:Int),.int .u64 (r2:Int),.int .u64 (r3:Int),.int .u64 (r4:Int)]:Array Value).size:=rfl
   have iS:(Tryz.prog.info? 63).map (·.size)=some (#[.int .u64 (r0:Int),.int .u64 (r1:Int),.int .u64 (r2:Int),.int .u64 (r3:Int),.int .u64 (r4:Int)]:Array Value).size:=by kernel_rfl
   have oS:(#[.int .u64 (r0:Int),.int .u64 (r1:Int),.int .u64 (r2:Int),.int .u64 (r3:Int),.int .u64 (r4:Int)]:Array Value).all (·.oneCell')=true:=by simp [Value.oneCell']
   have HE:Hid (Below w.heap.size w (wr.setRow (g+1) #[.int .u64 (r0:Int),.int .u64 (r1:Int),.int .u64 (r2:Int),.int .u64 (r3:Int),.int .u64 (r4:Int)])):=yh (zac HB.out (by have:=HG.out;omega))
   clear w0 w1 w2 w3 k1 k2 k3 k4 HI HX HB
   go_wp2_with (refine yj #[.int .u64 (r0:Int),.int .u64 (r1:Int),.int .u64 (r2:Int),.int .u64 (r3:Int),.int .u64 (r4:Int)] hr iS sS oS ?_)
   (try simp only [Exit.inBlock,Exit.then])
   refine bodyPost_ret (results_cell_row rfl _ _ (g+1) _ #[.int .u64 (r0:Int),.int .u64 (r1:Int),.int .u64 (r2:Int),.int .u64 (r3:Int),.int .u64 (r4:Int)] _ _ rfl (setRow_heap _ _ _ _ _ _ hr) Tryz.underlying63 rfl iS) rfl ?_
   exact HP.out _ _ rfl HE.out
end Go.Proofs.YtkgodlcnoenmbaaGreat
namespace Go.Proofs.YtkgodlcnoenmbaaGreat
open Go.RowKit
set_option linter.unusedVariables false
set_option maxRecDepth 100000
structure Fiv (t0 t1 t2 t3 t4:TypeId) (w wr:World) (g g2:Nat) (A B C D E:Array Value):Prop where
 b:wr.heap[g+1]?=some (.cells B t1 (0,0))
 d:wr.heap[g2]?=some (.cells D t3 (0,0))
 e:wr.heap[g2+1]?=some (.cells E t4 (0,0))
 gap:g+1<g2
 below:Below g w wr
theorem Fiv.set {t0 t1 t2 t3 t4:TypeId} {w wr:World} {g g2:Nat} {A B C D E:Array Value} (h:Fiv t0 t1 t2 t3 t4 w wr g g2 A B C D E) (k:Nat) (v:Value):Fiv t0 t1 t2 t3 t4 w (wr.setCell ⟨g2+1,k,none⟩ v) g g2 A B C D (E.setIfInBounds k v):=by
 have e:=setCell_eq_setRow wr (g2+1) k _ _ _ v h.e
 have hg:=h.gap
 exact ⟨by rw [e,setRow_other _ _ _ _ (by omega)];exact h.b,by rw [e,setRow_other _ _ _ _ (by omega)];exact h.d,by rw [e,setRow_heap _ _ _ _ _ _ h.e],h.gap,h.below.setCell (p:=⟨g2+1,k,none⟩) (by show g≤g2+1;omega) _⟩
def byteF (V i:Nat):UInt8:=UInt8.ofNat (V/256^i)
theorem bytes_end (V:Nat):updTo (List.replicate 32 0) (byteF V) 32=leB 32 V:=by
 refine list_ext_getD (by rw [updTo_len,zav];simp) fun i hi=>?_
 rw [updTo_len] at hi
 have hi':i<32:=by simpa using hi
 rw [updTo_get hi,if_pos hi',leB_get _ _ _ hi']
 rfl
set_option maxHeartbeats 3200000 in
theorem febytes_any {c:Array Value} {x:Nat} (hx:feR c x) (w:World):Calls Tryz.prog 94 #[.agg c] w (RetV w (.agg (bytT x))):=by
 have ic:=feR_info hx
 have hxl:x<PP:=by obtain ⟨_,_,_,_,_,-,-,-,-,-,-,rfl⟩:=hx;exact Nat.mod_lt _ (by decide)
 have HD:Hid (∀ W':World,Calls Tryz.prog 127 #[.agg c] W' (RetV W' (.agg (redA x)))):=yh fun W'=>reduced_any hx W'
 have iS:(Tryz.prog.info? 63).map (·.size)=some (redA x).size:=limb5_info _ _ _ _ _
 have sS:(#[.int .u64 0,.int .u64 0,.int .u64 0,.int .u64 0,.int .u64 0]:Array Value).size=(redA x).size:=rfl
 have oS:(redA x).all (·.oneCell')=true:=limb5_one _ _ _ _ _
 have hV:=val5_bits x
 rw [Nat.mod_eq_of_lt (show x<TT by unfold PP at hxl;unfold TT;omega)] at hV
 have hm:=fun y:Nat=>Nat.mod_lt y (show M51 > 0 by decide)
 obtain ⟨y0,y1,y2,y3⟩:=bytes_wordsF _ _ _ _ _ x (hm _) (hm _) (hm _) (hm _) (hm _) hV
 have j0:=hm x
 have j1:=hm (x/M51)
 have j2:=hm (x/M102)
 have j3:=hm (x/M153)
 have j4:=hm (x/M204)
 have HA:Hid (redA x=#[.int .u64 ((x % M51:Nat):Int),.int .u64 ((x/M51 % M51:Nat):Int),.int .u64 ((x/M102 % M51:Nat):Int),.int .u64 ((x/M153 % M51:Nat):Int),.int .u64 ((x/M204 % M51:Nat):Int)]):=yh rfl
 generalize redA x=RA at *
 generalize x % M51=r0 at *
 generalize x/M51 % M51=r1 at *
 generalize x/M102 % M51=r2 at *
 generalize x/M153 % M51=r3 at *
 generalize x/M204 % M51=r4 at *
 unfold M51 at j0 j1 j2 j3 j4
 have e0:=or_low r0 (r1 % 8192) 51 (by omega) (by omega) (by omega)
 have e1:=or_low (r1/8192) (r2 % 67108864) 38 (by omega) (by omega) (by omega)
 have e2:=or_low (r2/67108864) (r3 % 549755813888) 25 (by omega) (by omega) (by omega)
 have e3:=or_low (r3/549755813888) r4 12 (by omega) (by omega) (by omega)
 rw [y0] at e0
 rw [y1] at e1
 rw [y2] at e2
 rw [y3] at e3
 have d1:(r1:Int)/8192=((r1/8192:Nat):Int):=by omega
 have d2:(r2:Int)/67108864=((r2/67108864:Nat):Int):=by omega
 have d3:(r3:Int)/549755813888=((r3/549755813888:Nat):Int):=by omega
 have m0:IntKind.u64.wrap ((r1:Int)*2251799813685248)=((2^51*(r1 % 8192):Nat):Int):=by rw [IntKind.wrap_u64];omega
 have m1:IntKind.u64.wrap ((r2:Int)*274877906944)=((2^38*(r2 % 67108864):Nat):Int):=by rw [IntKind.wrap_u64];omega
 have m2:IntKind.u64.wrap ((r3:Int)*33554432)=((2^25*(r3 % 549755813888):Nat):Int):=by rw [IntKind.wrap_u64];omega
 have m3:(r4:Int)*4096=((2^12*r4:Nat):Int):=by omega
 have m3l:2^12*r4<18446744073709551616:=by omega
 generalize 2^51*(r1 % 8192)=k0 at *
 generalize 2^38*(r2 % 67108864)=k1 at *
 generalize 2^25*(r3 % 549755813888)=k2 at *
 generalize 2^12*r4=k3 at *
 generalize r1/8192=h1 at *
 generalize r2/67108864=h2 at *
 generalize r3/549755813888=h3 at *
 have HWD:Hid (wdA x=#[.int .u64 (wq x 0:Int),.int .u64 (wq x 1:Int),.int .u64 (wq x 2:Int),.int .u64 (wq x 3:Int)]):=yh rfl
 have HQ:Hid (∀ i,i<32→wq x (i/8)/2^(i % 8*8) % 256=x/256^i % 256):=yh (byte_of x)
 have hzb:=fun u=>arr32_zero u
 have nB:=zar (l:=leB 32 x) (zav _ _)
 have oB:=zap (leB 32 x)
 have iB:=zaf (zav 32 x)
 have ZB:zag=arrB (updTo (List.replicate 32 0) (byteF x) 0):=by rw [updTo_zero];rfl
 rw [show arrB (List.replicate 32 0)=zag from rfl] at hzb
 have HZB:=yh ZB
 have Hend:Hid (arrB (updTo (List.replicate 32 0) (byteF x) 32)=arrB (leB 32 x)):=yh (by rw [bytes_end])
 unfold bytT
 obtain ⟨OUT,hOUT⟩:∃ o,arrB (leB 32 x)=o:=⟨_,rfl⟩
 rw [hOUT] at nB oB iB Hend ⊢
 generalize zag=z32 at *
 have hW:RowsW ((w.alloc (.cells c 63)).alloc (.cells z32 22)) [(w.heap.size+1,z32,22),(w.heap.size,c,63)]:=by
  have h:=((RowsW.nil w).box c 63).box z32 22
  simp only [World.size_alloc] at h
  exact h
 have hld:=hW.tail.head
 obtain ⟨W1,hW1⟩:∃ W1,(w.alloc (.cells c 63)).alloc (.cells z32 22)=W1:=⟨_,rfl⟩
 have HB1:Hid (Below w.heap.size w W1):=yh (by rw [← hW1];exact zab (zab (Below.refl _ _) _) _)
 have HR:=yh hW
 rw [hW1] at HR
 have HW1:=yh hW1
 clear hW hW1 hx hxl hV hm y0 y1 y2 y3 ZB hOUT j0 j1 j2 j3 j4
 go_enter Tryz.func94,Tryz.ntmps94
 go_wp2_with (refine yi hld Tryz.underlying63 ic ?_)
 rw [HW1.out]
 with_reducible refine (HD.out _).mono ?_
 rintro e w2 ⟨rfl,hb2⟩
 have HR2:=yh (HR.out.below hb2)
 have HB2:=yh (zaa HB1.out hb2)
 clear hb2 hld HW1 HR HD
 have h3:(w2.alloc (.cells #[.int .u64 0,.int .u64 0,.int .u64 0,.int .u64 0,.int .u64 0] 63)).heap[w2.heap.size]?=some (.cells #[.int .u64 0,.int .u64 0,.int .u64 0,.int .u64 0,.int .u64 0] 63 (0,0)):=heap_alloc_new _ _
 have HR3:=yh (HR2.out.new #[.int .u64 0,.int .u64 0,.int .u64 0,.int .u64 0,.int .u64 0] RA 63)
 have HB3:=yh (zau HB2.out #[.int .u64 0,.int .u64 0,.int .u64 0,.int .u64 0,.int .u64 0] RA 63)
 go_upto_region 2 with (refine yj RA h3 iS sS oS ?_)
 obtain ⟨W3,hW3⟩:∃ X,(w2.alloc (.cells #[.int .u64 0,.int .u64 0,.int .u64 0,.int .u64 0,.int .u64 0] 63)).setRow w2.heap.size RA=X:=⟨_,rfl⟩
 obtain ⟨gr,hgr⟩:∃ X,w2.heap.size=X:=⟨_,rfl⟩
 rw [hW3,hgr] at HR3
 rw [hW3] at HB3
 rw [hW3,hgr]
 clear hW3 hgr h3 HR2 HB2
 have c0:W3.cell? ⟨gr,0,none⟩=some (.int .u64 (r0:Int)):=by rw [cell_of_row _ _ _ _ _ _ HR3.out.head,HA.out];rfl
 have c1:W3.cell? ⟨gr,1,none⟩=some (.int .u64 (r1:Int)):=by rw [cell_of_row _ _ _ _ _ _ HR3.out.head,HA.out];rfl
 have c2:W3.cell? ⟨gr,2,none⟩=some (.int .u64 (r2:Int)):=by rw [cell_of_row _ _ _ _ _ _ HR3.out.head,HA.out];rfl
 have c3:W3.cell? ⟨gr,3,none⟩=some (.int .u64 (r3:Int)):=by rw [cell_of_row _ _ _ _ _ _ HR3.out.head,HA.out];rfl
 have c4:W3.cell? ⟨gr,4,none⟩=some (.int .u64 (r4:Int)):=by rw [cell_of_row _ _ _ _ _ _ HR3.out.head,HA.out];rfl
 have hrow1:w.heap.size+1<W3.heap.size:=(Array.getElem?_eq_some_iff.1 HR3.out.tail.head).1
 have HI:Hid (Fiv 63 22 63 75 22 w ((W3.alloc (.cells (wdA x) 75)).alloc (.cells z32 22)) w.heap.size W3.heap.size #[] z32 #[] (wdA x) (arrB (updTo (List.replicate 32 0) (byteF x) 0))):=yh (by
  have hr:=((HR3.out.box (wdA x) 75).box z32 22)
  simp only [World.size_alloc] at hr
  refine ⟨hr.tail.tail.tail.head,hr.tail.head,?_,hrow1,zab (zab HB3.out _) _⟩
  rw [← HZB.out]
  exact hr.head)
 rw [HWD.out] at HI
 have HG:Hid (w.heap.size+1<W3.heap.size):=yh hrow1
 clear HR3 HB3 hrow1
 go_wp2_with fail
 rw [← HWD.out] at HI
 rw [← HWD.out]
 obtain ⟨W5,hW5⟩:∃ X,(W3.alloc (.cells (wdA x) 75)).alloc (.cells z32 22)=X:=⟨_,rfl⟩
 obtain ⟨g2,hg2⟩:∃ X,W3.heap.size=X:=⟨_,rfl⟩
 obtain ⟨g,hg⟩:∃ X,w.heap.size=X:=⟨_,rfl⟩
 rw [hW5,hg2,hg] at HI
 rw [hW5,hg2,hg]
 have HGG:=yh hg
 clear hW5 hg2 hg c0 c1 c2 c3 c4 e0 e1 e2 e3 m0 m1 m2 m3 m3l d1 d2 d3 HWD HA HG
 go_loopw [37] (fun i wr=>∃ k:Nat,k≤32∧i=.int .i64 (k:Int)∧Hid (Fiv 63 22 63 75 22 w wr g g2 #[] z32 #[] (wdA x) (arrB (updTo (List.replicate 32 0) (byteF x) k)))) (fun i _=>32-(intOf i).toNat)
 case atStart=>exact ⟨0,by omega,rfl,HI⟩
 case round =>
  clear HI
  obtain ⟨k,hk,rfl,HI⟩:=hrel
  by_cases hlt:k<32
  ·have hq:=HQ.out k hlt
   have hd4:k/8<4:=by omega
   obtain ⟨d,hd⟩:∃ d,k/8=d:=⟨_,rfl⟩
   obtain ⟨r,hr⟩:∃ r,k % 8=r:=⟨_,rfl⟩
   obtain ⟨e,he⟩:∃ e,r*8=e:=⟨_,rfl⟩
   rw [hd,hr,he] at hq
   rw [hd] at hd4
   have hel:e<57:=by omega
   have cz:wr.cell? ⟨g2,d,none⟩=some (.int .u64 (wq x d:Int)):=by rw [cell_of_row _ _ _ _ _ _ HI.out.d,wdA_get _ _ hd4]
   have hlen:(updTo (List.replicate 32 0) (byteF x) k).length=32:=by rw [updTo_len];simp
   have ce:wr.cell? ⟨g2+1,k,none⟩=some (.int .u8 (((updTo (List.replicate 32 0) (byteF x) k).getD k 0).toNat:Int)):=by rw [cell_of_row _ _ _ _ _ _ HI.out.e,zaJ _ _ (by omega)]
   have fe:wr.frozen? ⟨g2+1,k,none⟩=false:=by have:=HI.out.e;simp [World.frozen?,this]
   obtain ⟨t,ht⟩:∃ t,wq x d/2^e=t:=⟨_,rfl⟩
   rw [ht] at hq
   obtain ⟨v,hv⟩:∃ v,t % 256=v:=⟨_,rfl⟩
   have hb:(byteF x k).toNat=v:=by unfold byteF;rw [← hv,hq];simp
   have HI2:Hid (Fiv 63 22 63 75 22 w (wr.setCell ⟨g2+1,k,none⟩ (.int .u8 (v:Int))) g g2 #[] z32 #[] (wdA x) (arrB (updTo (List.replicate 32 0) (byteF x) (k+1)))):=yh (by
    rw [← updTo_step (by simpa using hlt),← arrB_set,hb]
    exact HI.out.set k _)
   have f6:((wq x d:Nat):Int)/2^e=(t:Int):=by rw [← ht,Int.natCast_ediv];simp
   have f7:IntKind.u8.wrap (t:Int)=(v:Int):=by rw [IntKind.wrap_u8];omega
   have f1:(k:Int).tdiv 8=(d:Int):=by rw [Int.tdiv_eq_ediv_of_nonneg (by omega)];omega
   have f1':(k:Int)/8=(d:Int):=by omega
   have f3:(k:Int).tmod 8=(r:Int):=by rw [Int.tmod_eq_emod_of_nonneg (by omega)];omega
   have f3':(k:Int) % 8=(r:Int):=by omega
   have f4:(r:Int)*8=(e:Int):=by omega
   have b1:0≤(d:Int):=by omega
   have b2:(d:Int)<4:=by omega
   have b3:0≤(e:Int):=by omega
   have b5:0≤(k:Int):=by omega
   have b6:(k:Int)<32:=by omega
   generalize ((updTo (List.replicate 32 0) (byteF x) k).getD k 0)=old at *
   generalize wq x d=q at *
   clear HI hq hd hr he hb hlen ht hv
   go_wp2_with fail
   go_roundw
   case rel=>exact ⟨k+1,by omega,by go_num,HI2⟩
   case measure=>simp [intOf];omega
  ·obtain rfl:k=32:=by omega
   rw [Hend.out] at HI
   have h1:=HI.out.e
   have h0:=HI.out.b
   have HB:Hid (Below w.heap.size w (wr.setRow (g+1) OUT)):=yh (by rw [HGG.out];exact zac HI.out.below (by omega))
   clear HI
   go_wp2_with (first
    | (refine yi h1 Tryz.underlying22 iB ?_)
    | (refine yj OUT h0 iB nB oB ?_))
   (try simp only [Exit.inBlock,Exit.then])
   refine bodyPost_ret (results_cell_row rfl _ _ (g+1) _ OUT _ _ rfl (setRow_heap _ _ _ _ _ _ h0) Tryz.underlying22 rfl iB) rfl ?_
   exact ⟨rfl,HB.out⟩
end Go.Proofs.YtkgodlcnoenmbaaGreat
namespace Go.Proofs.YtkgodlcnoenmbaaGreat
open Go.RowKit
set_option linter.unusedVariables false
set_option maxRecDepth 100000
set_option maxHeartbeats 1600000 in
theorem fecan_any (l:List UInt8) (hl:l.length=32) (w:World):Calls Tryz.prog 76 #[.agg (arrB l)] w (RetV w (.bool (canN l))):=by
 rw [← canN_iff hl]
 have htl:=topC_len l
 rw [hl] at htl
 have HFR:Hid (∀ W:World,Calls Tryz.prog 77 #[.agg (arrB (topC l))] W (RetFe feR W (feN (topC l)))):=yh fun W=>fefrom_any _ htl W
 have heq:=fun u:World=>eqB_run (P:=Tryz.prog) 22 5 32 (leB 32 (feN (topC l))) (topC l) (zav _ _) htl Tryz.underlying22 Tryz.underlying5 (fun w=>by kernel_rfl) (fun w=>by kernel_rfl) u
 obtain ⟨res,hres⟩:∃ r,decide (leB 32 (feN (topC l))=topC l)=r:=⟨_,rfl⟩
 rw [hres] at heq ⊢
 have HBY:Hid (∀ (S:Array Value),feR S (feN (topC l))→∀ W:World,Calls Tryz.prog 94 #[.agg S] W (RetV W (.agg (arrB (leB 32 (feN (topC l))))))):=yh fun S hS W=>febytes_any hS W
 obtain ⟨B2,hB2⟩:∃ B,arrB (leB 32 (feN (topC l)))=B:=⟨_,rfl⟩
 rw [hB2] at HBY heq
 have h0:(w.alloc (.cells (arrB l) 22)).heap[w.heap.size]?=some (.cells (arrB l) 22 (0,0)):=heap_alloc_new _ _
 obtain ⟨a,ha⟩:∃ a,l.getD 31 0=a:=⟨_,rfl⟩
 have cx:(w.alloc (.cells (arrB l) 22)).cell? ⟨w.heap.size,31,none⟩=some (.int .u8 (a.toNat:Int)):=by rw [cell_of_row _ _ _ _ _ _ h0,zaJ _ _ (by omega),ha]
 have f1:bits .and .u8 (a.toNat:Int) 127=((a &&& 127).toNat:Int):=u8_and' a 127
 have eT:(arrB l).setIfInBounds 31 (.int .u8 ((a &&& 127).toNat:Int))=arrB (topC l):=by rw [arrB_set,← ha];rfl
 have h1:(w.alloc (.cells (arrB (topC l)) 22)).heap[w.heap.size]?=some (.cells (arrB (topC l)) 22 (0,0)):=heap_alloc_new _ _
 have hb:Below w.heap.size w (w.alloc (.cells (arrB (topC l)) 22)):=(Below.refl w.heap.size w).alloc (Nat.le_refl _) _
 have nT:(arrB (topC l)).size=32:=by rw [zam,htl]
 have iT:(Tryz.prog.info? 22).map (·.size)=some (arrB (topC l)).size:=by rw [nT];kernel_rfl
 obtain ⟨L0,hL0⟩:∃ L,arrB l=L:=⟨_,rfl⟩
 rw [hL0] at cx eT ⊢
 obtain ⟨T,hT⟩:∃ L,arrB (topC l)=L:=⟨_,rfl⟩
 rw [hT] at HFR heq h1 hb iT eT
 have fx:=frozen_row h0 31
 rw [hL0] at fx
 have hm32:Tryz.prog.eqGuardType Tryz.prog.depth 22=false:=by kernel_rfl
 obtain ⟨m,hm⟩:∃ m:Int,((a &&& 127).toNat:Int)=m:=⟨_,rfl⟩
 rw [hm] at f1 eT
 obtain ⟨W1,hW1⟩:∃ W1,w.alloc (.cells T 22)=W1:=⟨_,rfl⟩
 rw [hW1] at h1 hb
 have hlt:w.heap.size<W1.heap.size:=(Array.getElem?_eq_some_iff.1 h1).1
 have HROW:Hid (∀ W,Below W1.heap.size W1 W→W.heap[w.heap.size]?=some (.cells T 22 (0,0))):=yh fun W h=>by rw [h.block _ hlt];exact h1
 have HB:=yh hb
 have HW1:=yh hW1
 have HET:=yh eT
 clear htl hl hres hB2 h0 ha eT h1 hb nT hL0 hT hm hlt hW1
 go_enter Tryz.func76,Tryz.ntmps76
 go_upto_region 2 with fail
 rw [HET.out,HW1.out]
 clear HW1 HET cx f1 fx
 refine wp_region_noPanic ?_
 refine wp_region_held_drew (S:=fun W=>Below W1.heap.size W1 W) (by kernel_rfl) (by exact (Below.refl _ _).drew) (fun hS=>?_)
 refine' yk 0  hS ?_ (hy:=fun W hSW=>zad rfl rfl (HROW.out W hSW) Tryz.underlying22 rfl iT)
 refine' yk 3  hS ?_ (hy:=fun W hSW=>zad rfl rfl (HROW.out W hSW) Tryz.underlying22 rfl iT)
 refine xk 1  (fun K hK=>?_)
 go_simp
 with_reducible refine (HFR.out _).mono ?_
 rintro e v1 ⟨S,rfl,hR,hb1⟩
 have HB3:=yh fun W:World=>HBY.out S hR W
 clear hR
 have kb1:=zaa hS hb1
 clear hS hb1
 refine hK.out _ _ (by exact kb1) (fun hS=>?_)
 clear hK K
 refine xk 2  (fun K hK=>?_)
 go_simp
 with_reducible refine (HB3.out _).mono ?_
 rintro e v2 ⟨rfl,hb2⟩
 have kb2:=zaa kb1 hb2
 clear hS hb2
 refine hK.out _ _ (by exact kb2) (fun hS=>?_)
 clear hK K
 refine' yk 4  hS ?_ (hy:=fun W hSW=>run_eql2 rfl rfl rfl hm32 (heq W))
 refine' yk 5  hS ?_
 refine wpAnyH_done (by kernel_rfl) ?_ _
 refine NoPanic.normal ?_
 clear hS
 (try simp only [Act.put])
 go_wp2_with fail
 go_ret
 exact ⟨rfl,zaa HB.out kb2⟩
theorem feB:FeB feR where
 lt:=fun h=>by obtain ⟨_,_,_,_,_,-,-,-,-,-,-,rfl⟩:=h;exact Nat.mod_lt _ (by decide)
 info:=feR_info
 one:=feR_one
 zero:=⟨#[.int .u64 0,.int .u64 0,.int .u64 0,.int .u64 0,.int .u64 0],fun u=>zero_arr 63 _ 5 (by kernel_rfl) u,feR_zero⟩
theorem feC:FeC feR where
 base:=feB
 from_:=fefrom_any
 small:=fesmall_any
 can:=fecan_any
 bytes:=febytes_any
 add:=feadd_any
 sub:=fesub_any
 mul:=femul_any
 square:=fesquare_any
 neg:=feneg_any
 equal:=feequal_any
 isZero:=feiszero_any
 odd:=feodd_any
end Go.Proofs.YtkgodlcnoenmbaaGreat
namespace Go.Proofs.YtkgodlcnoenmbaaGreat
open Go.RowKit
set_option linter.unusedVariables false
set_option maxRecDepth 100000
structure FePC (R:Array Value→Nat→Prop):Prop where
 base:FeB R
 from_:FeFromC R
 small:FeSmallC R
 mul:FeMulC R
 square:FeSquareC R
 neg:FeNegC R
 equal:FeEqualC R
 odd:FeOddC R
set_option maxHeartbeats 1600000 in
theorem psquared_any {R:Array Value→Nat→Prop} (C:FePC R) {c:Array Value} {x:Nat} (hx:R c x) (n:Nat) (hn:n<9223372036854775808) (w:World) :
  Calls Tryz.prog 133 #[.agg c,.int .i64 (n:Int)] w (RetFe R w (pwN x (2^n))):=by
 obtain ⟨Z,hZ,RZ⟩:=C.base.zero
 have HR0:=yh (((RowsW.nil w).box c 63).box Z 63)
 have HB0:=yh (zae (zae (Below.refl w.heap.size w) c 63) Z 63)
 rw [World.size_alloc] at HR0
 have HX0:Hid (R c (pwN x (2^0))):=yh (by rw [Nat.pow_zero,pwN_oneE (C.base.lt hx)];exact hx)
 have HC:=yh C
 clear C hx
 go_enter Tryz.func133,Tryz.ntmps133
 go_wp2_with fail
 obtain ⟨W0,hW0⟩:∃ W,(w.alloc (.cells c 63)).alloc (.cells Z 63)=W:=⟨_,rfl⟩
 obtain ⟨g,hg⟩:∃ g,w.heap.size=g:=⟨_,rfl⟩
 rw [hW0] at HR0 HB0
 rw [hg] at HR0
 rw [hW0,hg]
 have HG:=yh hg
 clear hW0 hg
 go_loopw [6] (fun i wr=>∃ k:Nat,k≤n∧i=.int .i64 (k:Int)∧∃ d,Hid (R d (pwN x (2^k)))∧Hid (RowsW wr [(g+1,Z,63),(g,d,63)])∧Hid (Below w.heap.size w wr)) (fun i _=>n-(intOf i).toNat)
 case atStart=>exact ⟨0,by omega,rfl,c,HX0,HR0,HB0⟩
 case round =>
  clear HR0 HB0 HX0
  obtain ⟨k,hk,rfl,d,HD,HR1,HB1⟩:=hrel
  by_cases hlt:k<n
  ·have dk:decide ((k:Int)<(n:Int))=true:=decide_eq_true (by omega)
   have l1:=HR1.out.tail.head
   have i1:=HC.out.base.info HD.out
   have HM:=yh fun W=>HC.out.square HD.out W
   have HN:=yh (pow2_next x k)
   go_wp2_with (refine yi l1 Tryz.underlying63 i1 ?_)
   with_reducible refine (HM.out _).mono ?_
   rintro e v3 ⟨c3,rfl,r3,hb3⟩
   rw [HN.out] at r3
   have R3:=yh r3
   have r4:=HR1.out.below hb3
   have l4:=r4.tail.head
   have hne:∀ r ∈ [((g+1,Z,63):RowT)],r.1≠g:=by intro r hr;simp only [List.mem_cons,List.not_mem_nil,or_false] at hr;subst hr;simp
   have i3:=HC.out.base.info r3
   have o3:=HC.out.base.one r3
   have s3:=HC.out.base.size HD.out r3
   have HR4:Hid (RowsW (v3.setRow g c3) [(g+1,Z,63),(g,c3,63)]):=yh ⟨by rw [setRow_other _ _ _ _ (by omega)];exact r4.head,setRow_heap _ _ _ _ _ _ l4,trivial⟩
   have HB4:=yh (zac (g:=g) (cs:=c3) (zaa HB1.out hb3) (by rw [HG.out];omega))
   clear hb3 r3 r4 l1 HM HR1 HB1 HN HD hne
   go_wp2_with (refine yj c3 l4 i3 s3 o3 ?_)
   go_roundw
   case rel=>exact ⟨k+1,by omega,by go_num,c3,R3,HR4,HB4⟩
   case measure=>simp [intOf] <;> omega
  ·have hkn:k=n:=by omega
   have dk:decide ((k:Int)<(n:Int))=false:=decide_eq_false (by omega)
   rw [hkn] at HD
   have i1:=HC.out.base.info HD.out
   have o1:=HC.out.base.one HD.out
   have s1:=HC.out.base.size RZ HD.out
   have l1:=HR1.out.tail.head
   have l2:=HR1.out.head
   have HB:=yh (show Below w.heap.size w (wr.setRow (g+1) d) from zac HB1.out (by rw [HG.out];omega))
   clear HR1 HB1 hlt
   go_wp2_with (first
    | (refine yi l1 Tryz.underlying63 i1 ?_)
    | (refine yj d l2 i1 s1 o1 ?_))
   (try simp only [Exit.inBlock,Exit.then])
   refine bodyPost_ret (results_cell_row rfl _ _ (g+1) _ d _ _ rfl (setRow_heap _ _ _ _ _ _ l2) Tryz.underlying63 rfl i1) rfl ?_
   exact ⟨d,rfl,HD.out,HB.out⟩
end Go.Proofs.YtkgodlcnoenmbaaGreat
namespace Go.Proofs.YtkgodlcnoenmbaaGreat
open Go.RowKit
set_option linter.unusedVariables false
set_option maxRecDepth 100000
theorem build_zero {Z:Array Value} {ρ:Operand→Value} {dst:Option Nat} {ty:TypeId} {pos:String} {after:Array Edge} {gd:Option (Nat × Bool)} {w:World} (hZ:∀ u,(zeroValue 63).run Tryz.prog u=.ok (.agg Z) u) :
  (execOp ρ ⟨dst,.build 63 #[],ty,pos,after,gd⟩).run Tryz.prog w=.ok (.value (.agg Z)) w:=by
 unfold execOp
 simp [hZ,go_sem,Instr.build,Instr.fill]
set_option maxHeartbeats 3200000 in
theorem pones_any {R:Array Value→Nat→Prop} (C:FePC R) {c:Array Value} {x:Nat} (hx0:R c x) (n:Nat) (h1:1≤n) (h2:n<9223372036854775808):∀ w:World,Calls Tryz.prog 159 #[.agg c,.int .i64 (n:Int)] w (RetFe R w (pwN x (2^n-1))):=by
 induction n using Nat.strongRecOn with
 | _ n ih0 =>
 have ih:∀ m,m<n→1≤m→∀ W:World,Calls Tryz.prog 159 #[.agg c,.int .i64 (m:Int)] W (RetFe R W (pwN x (2^m-1))):=fun m hm h=>ih0 m hm h (by omega)
 clear ih0
 intro w
 have hx:=hx0
 clear hx0
 obtain ⟨Z,hZ,rZ⟩:=C.base.zero
 have RZZ:=yh rZ
 clear rZ
 have Rc:=yh hx
 have HXL:Hid (x<PP):=yh (C.base.lt hx)
 clear hx
 have HR0:=yh (((RowsW.nil w).box c 63).box Z 63)
 have HB0:=yh (zae (zae (Below.refl w.heap.size w) c 63) Z 63)
 rw [World.size_alloc] at HR0
 go_enter Tryz.func159,Tryz.ntmps159
 go_upto_region 1 with fail
 obtain ⟨W0,hW0⟩:∃ W,((w.alloc (.cells c 63)).alloc (.cells Z 63))=W:=⟨_,rfl⟩
 obtain ⟨g0,hg0⟩:∃ g,w.heap.size=g:=⟨_,rfl⟩
 rw [hW0] at HR0 HB0
 rw [hg0] at HR0
 rw [hW0,hg0]
 have HG0:=yh hg0
 clear hW0 hg0
 by_cases h1:n=1
 ·have d1:((n:Int) == 1)=true:=by rw [beq_iff_eq];omega
  have HX1:Hid (pwN x (2^n-1)=x):=yh (by rw [h1];exact pwN_oneE HXL.out)
  clear h1
  go_upto_region 2 with fail
  have lx:=HR0.out.tail.head
  have lsq1:=HR0.out.head
  have HRq1:Hid (RowsW (W0.setRow (g0+1) c) [((g0+1),c,63),(g0,c,63)]):=yh ⟨setRow_heap _ _ _ _ _ _ lsq1,(by rw [setRow_other _ _ _ _ (by omega)];exact HR0.out.tail.head),trivial⟩
  have HBq1:=yh (zac (g:=(g0+1)) (cs:=c) HB0.out (by have:=HG0.out;omega))
  go_wp2_with (first
    | (refine yi lx Tryz.underlying63 (C.base.info Rc.out) ?_)
    | (refine yj c lsq1 (C.base.info Rc.out) (C.base.size RZZ.out Rc.out) (C.base.one Rc.out) ?_))
  obtain ⟨Wq1,hWq1⟩:∃ W,W0.setRow (g0+1) c=W:=⟨_,rfl⟩
  rw [hWq1] at HRq1 HBq1
  (try rw [hWq1])
  clear hWq1 lsq1
  (try simp only [Exit.inBlock,Exit.then])
  refine bodyPost_ret (results_cell_row rfl _ _ (g0+1) _ c _ _ rfl HRq1.out.head Tryz.underlying63 rfl (C.base.info Rc.out)) rfl ?_
  exact ⟨_,rfl,by rw [HX1.out];exact Rc.out,HBq1.out⟩
 ·have d1:((n:Int) == 1)=false:=by rw [beq_eq_false_iff_ne];omega
  obtain ⟨m,hm⟩:∃ m,n/2=m:=⟨_,rfl⟩
  have hm1:1≤m:=by omega
  have hm2:m<n:=by omega
  have Hm:Hid (m<9223372036854775808):=yh (by omega)
  have q1:(n:Int).tdiv 2=(m:Int):=by rw [Int.tdiv_eq_ediv_of_nonneg (by omega)];omega
  have q2:(n:Int)/2=(m:Int):=by omega
  have IH:Hid (∀ W:World,Calls Tryz.prog 159 #[.agg c,.int .i64 (m:Int)] W (RetFe R W (pwN x (2^m-1)))):=yh (ih m hm2 hm1)
  clear ih
  have SQM:Hid (∀ (d:Array Value) (y:Nat),R d y→∀ W:World,Calls Tryz.prog 133 #[.agg d,.int .i64 (IntKind.i64.wrap (m:Int))] W (RetFe R W (pwN y (2^m)))):=yh fun d y h W=>by rw [show IntKind.i64.wrap (m:Int)=(m:Int) by rw [IntKind.wrap_i64];have:=Hm.out;omega];exact psquared_any C h m Hm.out W
  go_upto_region 3 with fail
  have l2:=HR0.out.tail.head
  go_wp2_with (refine yi l2 Tryz.underlying63 (C.base.info Rc.out) ?_)
  obtain ⟨n3,Hn3,HLn3⟩:=ym (K:=PP) (pwN x (2^m-1)) (pwN_lt _ _)
  with_reducible refine ((fun W=>IH.out W) _).mono ?_
  rintro e vq4 ⟨cq4,rfl,rq4,hbq4⟩
  rw [Hn3.out] at rq4
  have Rq4:=yh rq4
  clear rq4
  have HRq4:=yh (HR0.out.below hbq4)
  have HBq4:=yh (zaa HB0.out hbq4)
  clear hbq4
  have h0q5:(vq4.alloc (.cells Z 63)).heap[vq4.heap.size]?=some (.cells Z 63 (0,0)):=heap_alloc_new _ _
  have HRq5:=yh (HRq4.out.new Z cq4 63)
  have HBq5:=yh (zau HBq4.out Z cq4 63)
  have HNq5:=yh HRq4.out.ne
  have HGq5:=yh HBq4.out.size
  go_upto_region 4 with (refine yj cq4 h0q5 (C.base.info Rq4.out) (C.base.size RZZ.out Rq4.out) (C.base.one Rq4.out) ?_)
  obtain ⟨Wq5,hWq5⟩:∃ W,(vq4.alloc (.cells Z 63)).setRow vq4.heap.size cq4=W:=⟨_,rfl⟩
  obtain ⟨gq5,hgq5⟩:∃ g,vq4.heap.size=g:=⟨_,rfl⟩
  rw [hWq5,hgq5] at HRq5
  rw [hWq5] at HBq5
  rw [hgq5] at HNq5 HGq5
  rw [hWq5,hgq5]
  clear hWq5 hgq5 h0q5
  have NEq5_0:Hid (g0≠gq5):=yh (HNq5.out (g0,c,63) (by simp))
  have NEq5_1:Hid ((g0+1)≠gq5):=yh (HNq5.out ((g0+1),Z,63) (by simp))
  refine wp_region_noPanic ?_
  refine zai 6 6 63 Z (by kernel_rfl) (by kernel_rfl) ⟨by kernel_rfl,by kernel_rfl,hZ,fun _ _ _ h=>h⟩ (fun hA hS=>?_)
  refine' yD 0 hA hS ?_ (hy:=fun W hSW=>zad rfl rfl (HRq5.out.below hSW).head Tryz.underlying63 rfl (C.base.info Rq4.out))
  refine' yD 1 hA hS ?_
  refine' yD 2 hA hS ?_
  refine' yD 4 hA hS ?_ (hy:=fun W hSW=>zad rfl rfl (HRq5.out.below hSW).head Tryz.underlying63 rfl (C.base.info Rq4.out))
  refine xE 3 hA hS (fun oq7 Xq7 hS K hK=>?_)
  go_simp
  obtain ⟨n6,Hn6,HLn6⟩:=ym (K:=PP) (pwN n3 (2^m)) (pwN_lt _ _)
  with_reducible refine ((SQM.out _ _ Rq4.out) _).mono ?_
  rintro e vq7 ⟨cq7,rfl,rq7,hbq7⟩
  rw [Hn6.out] at rq7
  have Rq7:=yh rq7
  clear rq7
  refine hK.out _ _ hbq7 (fun hS=>?_)
  clear hK K hbq7
  refine xE 5 hA hS (fun oq9 Xq9 hS K hK=>?_)
  go_simp
  obtain ⟨n8,Hn8,HLn8⟩:=ym (K:=PP) ((n6*n3) % PP) (Nat.mod_lt _ (by decide))
  with_reducible refine ((C.mul Rq7.out Rq4.out) _).mono ?_
  rintro e vq9 ⟨cq9,rfl,rq9,hbq9⟩
  rw [Hn8.out] at rq9
  have Rq9:=yh rq9
  clear rq9
  refine hK.out _ _ hbq9 (fun hS=>?_)
  clear hK K hbq9
  refine' zax 7 hA rfl (by kernel_rfl) (by kernel_rfl) (by kernel_rfl) hS (by kernel_rfl) rfl (by intro h;cases h) (C.base.info Rq9.out) (C.base.size RZZ.out Rq9.out) (C.base.one Rq9.out) ?_ ?_
  rotate_left 1
  ·intro g;simp only [List.set_cons_succ,List.set_cons_zero];rfl
  intro gq10 Wq10 hgq10 hbq10 hrowq10
  clear hA hS
  refine wpAnyH_done (by kernel_rfl) ?_ _
  refine NoPanic.normal ?_
  (try simp only [Act.put])
  have HRq10:Hid (RowsW Wq10 [(gq10,cq9,63),(gq5,cq4,63),((g0+1),Z,63),(g0,c,63)]):=yh ⟨hrowq10,HRq5.out.below hbq10⟩
  have HBq10:=yh (zaa HBq5.out hbq10)
  have NEq10_0:Hid (g0≠gq10):=yh (by have h:=HRq5.out.lt (g0,c,63) (by simp);have:=hgq10;simp only at h;omega)
  have NEq10_1:Hid ((g0+1)≠gq10):=yh (by have h:=HRq5.out.lt ((g0+1),Z,63) (by simp);have:=hgq10;simp only at h;omega)
  have NEq10_2:Hid (gq5≠gq10):=yh (by have h:=HRq5.out.lt (gq5,cq4,63) (by simp);have:=hgq10;simp only at h;omega)
  have HGq10:=yh (Nat.le_trans HBq5.out.size hgq10)
  clear hrowq10 hbq10 hgq10
  have HE:Hid (n8=pwN x (2^(2*m)-1)):=yh (by rw [← Hn8.out,← Hn6.out,← Hn3.out];exact ones_even x m)
  go_upto_region 5 with fail
  by_cases ho:n % 2=1
  ·have d2:(n:Int).tmod 2=1:=by rw [Int.tmod_eq_emod_of_nonneg (by omega)];omega
   have d2':(n:Int) % 2=1:=by omega
   have hn2:n=2*m+1:=by omega
   have HN:=yh hn2
   clear hn2 hm
   go_upto_region 6 with fail
   refine wp_region_noPanic ?_
   refine zah (S:=fun W=>Below Wq10.heap.size Wq10 W) 4 (by kernel_rfl) ⟨by kernel_rfl,by kernel_rfl,by kernel_rfl,by kernel_rfl⟩ (by exact (Below.refl _ _).drew) (fun hT inv hS=>?_)
   refine' yT 0 hT inv hS (fun inv=>?_) (hy:=fun W hSW=>zad rfl rfl (HRq10.out.below hSW).head Tryz.underlying63 rfl (C.base.info Rq9.out))
   refine' yT 2 hT inv hS (fun inv=>?_) (hy:=fun W hSW=>zad rfl rfl (HRq10.out.below hSW).tail.tail.tail.head Tryz.underlying63 rfl (C.base.info Rc.out))
   refine xT 1 inv (fun K hK=>?_)
   go_simp
   obtain ⟨n11,Hn11,HLn11⟩:=ym (K:=PP) ((n8*n8) % PP) (Nat.mod_lt _ (by decide))
   with_reducible refine ((C.square Rq9.out) _).mono ?_
   rintro e vq12 ⟨cq12,rfl,rq12,hbq12⟩
   rw [Hn11.out] at rq12
   have Rq12:=yh rq12
   clear rq12
   have kbq12:=zaa hS hbq12
   clear hS hbq12
   refine hK.out _ _ (by exact kbq12) (fun inv hS=>?_)
   clear hK K
   refine xT 3 inv (fun K hK=>?_)
   go_simp
   obtain ⟨n13,Hn13,HLn13⟩:=ym (K:=PP) ((n11*x) % PP) (Nat.mod_lt _ (by decide))
   with_reducible refine ((C.mul Rq12.out Rc.out) _).mono ?_
   rintro e vq14 ⟨cq14,rfl,rq14,hbq14⟩
   rw [Hn13.out] at rq14
   have Rq14:=yh rq14
   clear rq14
   have kbq14:=zaa kbq12 hbq14
   clear hS hbq14
   refine hK.out _ _ (by exact kbq14) (fun inv hS=>?_)
   clear hK K
   refine zaD (by kernel_rfl) ?_
   simp only [List.drop_succ_cons,List.drop_zero]
   clear hS
   (try simp only [Act.put])
   have HRq15:=yh (HRq10.out.below kbq14)
   have HBq15:=yh (zaa HBq10.out kbq14)
   have lsq16:=HRq15.out.head
   have HRq16:Hid (RowsW (vq14.setRow gq10 cq14) [(gq10,cq14,63),(gq5,cq4,63),((g0+1),Z,63),(g0,c,63)]):=yh ⟨setRow_heap _ _ _ _ _ _ lsq16,(by rw [setRow_other _ _ _ _ NEq10_2.out];exact HRq15.out.tail.head),(by rw [setRow_other _ _ _ _ NEq10_1.out];exact HRq15.out.tail.tail.head),(by rw [setRow_other _ _ _ _ NEq10_0.out];exact HRq15.out.tail.tail.tail.head),trivial⟩
   have HBq16:=yh (zac (g:=gq10) (cs:=cq14) HBq15.out HGq10.out)
   go_wp2_with (refine yj cq14 lsq16 (C.base.info Rq14.out) (C.base.size Rq9.out Rq14.out) (C.base.one Rq14.out) ?_)
   obtain ⟨Wq16,hWq16⟩:∃ W,vq14.setRow gq10 cq14=W:=⟨_,rfl⟩
   rw [hWq16] at HRq16 HBq16
   (try rw [hWq16])
   clear hWq16 lsq16
   refine NoPanic.normal ?_
   go_upto_region 7 with fail
   have l17:=HRq16.out.head
   have lsq18:=HRq16.out.tail.tail.head
   have HRq18:Hid (RowsW (Wq16.setRow (g0+1) cq14) [(gq10,cq14,63),(gq5,cq4,63),((g0+1),cq14,63),(g0,c,63)]):=yh ⟨(by rw [setRow_other _ _ _ _ (Ne.symm NEq10_1.out)];exact HRq16.out.head),(by rw [setRow_other _ _ _ _ (Ne.symm NEq5_1.out)];exact HRq16.out.tail.head),setRow_heap _ _ _ _ _ _ lsq18,(by rw [setRow_other _ _ _ _ (by omega)];exact HRq16.out.tail.tail.tail.head),trivial⟩
   have HBq18:=yh (zac (g:=(g0+1)) (cs:=cq14) HBq16.out (by have:=HG0.out;omega))
   go_wp2_with (first
     | (refine yi l17 Tryz.underlying63 (C.base.info Rq14.out) ?_)
     | (refine yj cq14 lsq18 (C.base.info Rq14.out) (C.base.size RZZ.out Rq14.out) (C.base.one Rq14.out) ?_))
   obtain ⟨Wq18,hWq18⟩:∃ W,Wq16.setRow (g0+1) cq14=W:=⟨_,rfl⟩
   rw [hWq18] at HRq18 HBq18
   (try rw [hWq18])
   clear hWq18 lsq18
   (try simp only [Exit.inBlock,Exit.then])
   refine bodyPost_ret (results_cell_row rfl _ _ (g0+1) _ cq14 _ _ rfl HRq18.out.tail.tail.head Tryz.underlying63 rfl (C.base.info Rq14.out)) rfl ?_
   exact ⟨_,rfl,by rw [show pwN x (2^n-1)=n13 by rw [HN.out,← Hn13.out,← Hn11.out,HE.out];exact (ones_odd m).symm];exact Rq14.out,HBq18.out⟩
  ·have d2:(n:Int).tmod 2=0:=by rw [Int.tmod_eq_emod_of_nonneg (by omega)];omega
   have d2':(n:Int) % 2=0:=by omega
   have hn2:n=2*m:=by omega
   have HN:=yh hn2
   clear hn2 hm
   go_upto_region 7 with fail
   have l19:=HRq10.out.head
   have lsq20:=HRq10.out.tail.tail.head
   have HRq20:Hid (RowsW (Wq10.setRow (g0+1) cq9) [(gq10,cq9,63),(gq5,cq4,63),((g0+1),cq9,63),(g0,c,63)]):=yh ⟨(by rw [setRow_other _ _ _ _ (Ne.symm NEq10_1.out)];exact HRq10.out.head),(by rw [setRow_other _ _ _ _ (Ne.symm NEq5_1.out)];exact HRq10.out.tail.head),setRow_heap _ _ _ _ _ _ lsq20,(by rw [setRow_other _ _ _ _ (by omega)];exact HRq10.out.tail.tail.tail.head),trivial⟩
   have HBq20:=yh (zac (g:=(g0+1)) (cs:=cq9) HBq10.out (by have:=HG0.out;omega))
   go_wp2_with (first
     | (refine yi l19 Tryz.underlying63 (C.base.info Rq9.out) ?_)
     | (refine yj cq9 lsq20 (C.base.info Rq9.out) (C.base.size RZZ.out Rq9.out) (C.base.one Rq9.out) ?_))
   obtain ⟨Wq20,hWq20⟩:∃ W,Wq10.setRow (g0+1) cq9=W:=⟨_,rfl⟩
   rw [hWq20] at HRq20 HBq20
   (try rw [hWq20])
   clear hWq20 lsq20
   (try simp only [Exit.inBlock,Exit.then])
   refine bodyPost_ret (results_cell_row rfl _ _ (g0+1) _ cq9 _ _ rfl HRq20.out.tail.tail.head Tryz.underlying63 rfl (C.base.info Rq9.out)) rfl ?_
   exact ⟨_,rfl,by rw [show pwN x (2^n-1)=n8 by rw [HN.out];exact HE.out.symm];exact Rq9.out,HBq20.out⟩
set_option maxHeartbeats 1600000 in
theorem peighth_any {R:Array Value→Nat→Prop} (C:FePC R) {c:Array Value} {x:Nat} (hx:R c x) (w:World):Calls Tryz.prog 123 #[.agg c] w (RetFe R w (pwN x KP)):=by
 obtain ⟨Z,hZ,rZ⟩:=C.base.zero
 have RZZ:=yh rZ
 clear rZ
 have Rc:=yh hx
 have HXL:Hid (x<PP):=yh (C.base.lt hx)
 clear hx
 have HR0:=yh (((RowsW.nil w).box c 63).box Z 63)
 have HB0:=yh (zae (zae (Below.refl w.heap.size w) c 63) Z 63)
 rw [World.size_alloc] at HR0
 go_enter Tryz.func123,Tryz.ntmps123
 go_upto_region 1 with fail
 obtain ⟨W0,hW0⟩:∃ W,((w.alloc (.cells c 63)).alloc (.cells Z 63))=W:=⟨_,rfl⟩
 obtain ⟨g0,hg0⟩:∃ g,w.heap.size=g:=⟨_,rfl⟩
 rw [hW0] at HR0 HB0
 rw [hg0] at HR0
 rw [hW0,hg0]
 have HG0:=yh hg0
 clear hW0 hg0
 refine wp_region_noPanic ?_
 refine zah (S:=fun W=>Below W0.heap.size W0 W) 5 (by kernel_rfl) ⟨by kernel_rfl,by kernel_rfl,by kernel_rfl,by kernel_rfl⟩ (by exact (Below.refl _ _).drew) (fun hT inv hS=>?_)
 refine' yT 0 hT inv hS (fun inv=>?_) (hy:=fun W hSW=>zad rfl rfl (HR0.out.below hSW).tail.head Tryz.underlying63 rfl (C.base.info Rc.out))
 refine' yT 3 hT inv hS (fun inv=>?_) (hy:=fun W hSW=>zad rfl rfl (HR0.out.below hSW).tail.head Tryz.underlying63 rfl (C.base.info Rc.out))
 refine xT 1 inv (fun K hK=>?_)
 go_simp
 obtain ⟨n1,Hn1,HLn1⟩:=ym (K:=PP) (pwN x (2^250-1)) (pwN_lt _ _)
 have o4:∀ W:World,Calls Tryz.prog 159 #[.agg c,.int .i64 250] W (RetFe R W (pwN x (2^250-1))):=fun W=>pones_any C Rc.out 250 (by decide) (by decide) W
 with_reducible refine (o4 _).mono ?_
 rintro e vq2 ⟨cq2,rfl,rq2,hbq2⟩
 rw [Hn1.out] at rq2
 have Rq2:=yh rq2
 clear rq2
 have kbq2:=zaa hS hbq2
 clear hS hbq2
 refine hK.out _ _ (by exact kbq2) (fun inv hS=>?_)
 clear hK K
 refine xT 2 inv (fun K hK=>?_)
 go_simp
 obtain ⟨n3,Hn3,HLn3⟩:=ym (K:=PP) (pwN n1 (2^2)) (pwN_lt _ _)
 have o5:∀ W:World,Calls Tryz.prog 133 #[.agg cq2,.int .i64 2] W (RetFe R W (pwN n1 (2^2))):=fun W=>psquared_any C Rq2.out 2 (by decide) W
 with_reducible refine (o5 _).mono ?_
 rintro e vq4 ⟨cq4,rfl,rq4,hbq4⟩
 rw [Hn3.out] at rq4
 have Rq4:=yh rq4
 clear rq4
 have kbq4:=zaa kbq2 hbq4
 clear hS hbq4
 refine hK.out _ _ (by exact kbq4) (fun inv hS=>?_)
 clear hK K
 refine xT 4 inv (fun K hK=>?_)
 go_simp
 obtain ⟨n5,Hn5,HLn5⟩:=ym (K:=PP) ((n3*x) % PP) (Nat.mod_lt _ (by decide))
 with_reducible refine ((C.mul Rq4.out Rc.out) _).mono ?_
 rintro e vq6 ⟨cq6,rfl,rq6,hbq6⟩
 rw [Hn5.out] at rq6
 have Rq6:=yh rq6
 clear rq6
 have kbq6:=zaa kbq4 hbq6
 clear hS hbq6
 refine hK.out _ _ (by exact kbq6) (fun inv hS=>?_)
 clear hK K
 refine zaD (by kernel_rfl) ?_
 simp only [List.drop_succ_cons,List.drop_zero]
 clear hS
 (try simp only [Act.put])
 have HRq7:=yh (HR0.out.below kbq6)
 have HBq7:=yh (zaa HB0.out kbq6)
 have lsq8:=HRq7.out.head
 have HRq8:Hid (RowsW (vq6.setRow (g0+1) cq6) [((g0+1),cq6,63),(g0,c,63)]):=yh ⟨setRow_heap _ _ _ _ _ _ lsq8,(by rw [setRow_other _ _ _ _ (by omega)];exact HRq7.out.tail.head),trivial⟩
 have HBq8:=yh (zac (g:=(g0+1)) (cs:=cq6) HBq7.out (by have:=HG0.out;omega))
 go_wp2_with (refine yj cq6 lsq8 (C.base.info Rq6.out) (C.base.size RZZ.out Rq6.out) (C.base.one Rq6.out) ?_)
 obtain ⟨Wq8,hWq8⟩:∃ W,vq6.setRow (g0+1) cq6=W:=⟨_,rfl⟩
 rw [hWq8] at HRq8 HBq8
 (try rw [hWq8])
 clear hWq8 lsq8
 refine NoPanic.normal ?_
 go_wp2_with fail
 (try simp only [Exit.inBlock,Exit.then])
 refine bodyPost_ret (results_cell_row rfl _ _ (g0+1) _ cq6 _ _ rfl HRq8.out.head Tryz.underlying63 rfl (C.base.info Rq6.out)) rfl ?_
 exact ⟨_,rfl,by rw [show pwN x KP=n5 by rw [← Hn5.out,← Hn3.out,← Hn1.out];exact eighth_is.symm];exact Rq6.out,HBq8.out⟩
def bI:List UInt8:=[0xb0,0xa0,0x0e,0x4a,0x27,0x1b,0xee,0xc4,0x78,0xe4,0x2f,0xad,0x06,0x18,0x43,0x2f,0xa7,0xd7,0xfb,0x3d,0x99,0x00,0x4d,0x2b,0x0b,0xdf,0xc1,0x4f,0x80,0x24,0x83,0x2b]
theorem bI_len:bI.length=32:=rfl
theorem bI_fe:feN bI=qI:=by decide +kernel
set_option maxHeartbeats 1600000 in
theorem prootm_any {R:Array Value→Nat→Prop} (C:FePC R) (w:World):Calls Tryz.prog 125 #[] w (RetFe R w qI):=by
 obtain ⟨Z,hZ,RZ⟩:=C.base.zero
 have HC:=yh C
 have HZZ:=yh RZ
 have HF:Hid (∀ W:World,Calls Tryz.prog 77 #[.agg (arrB bI)] W (RetFe R W qI)):=yh fun W=>by have h:=C.from_ bI bI_len W;rw [bI_fe] at h;exact h
 have HR0:=yh ((RowsW.nil w).box Z 63)
 have HB0:=yh (zae (Below.refl w.heap.size w) Z 63)
 clear C RZ
 go_enter Tryz.func125,Tryz.ntmps125
 go_upto_region 1 with fail
 obtain ⟨W0,hW0⟩:∃ W,w.alloc (.cells Z 63)=W:=⟨_,rfl⟩
 obtain ⟨g0,hg0⟩:∃ g,w.heap.size=g:=⟨_,rfl⟩
 rw [hW0] at HR0 HB0
 rw [hg0] at HR0
 rw [hW0,hg0]
 have HG0:=yh hg0
 clear hW0 hg0
 go_wp2_with (refine zaG (o:=⟨some 1,_,_,_,_,_⟩) rfl (.agg (arrB bI)) ?_ ?_;kernel_rfl)
 with_reducible refine (HF.out _).mono ?_
 rintro e v1 ⟨c1,rfl,r1,hb1⟩
 have HR1:=yh (HR0.out.below hb1)
 have l1:=HR1.out.head
 have HB:=yh (zac (g:=g0) (cs:=c1) (zaa HB0.out hb1) (by rw [HG0.out];exact Nat.le_refl _))
 have i1:=HC.out.base.info r1
 have o1:=HC.out.base.one r1
 have s1:=HC.out.base.size HZZ.out r1
 have R1:=yh r1
 clear hb1 r1
 go_wp2_with (refine yj c1 l1 i1 s1 o1 ?_)
 (try simp only [Exit.inBlock,Exit.then])
 refine bodyPost_ret (results_cell_row rfl _ _ g0 _ c1 _ _ rfl (setRow_heap _ _ _ _ _ _ l1) Tryz.underlying63 rfl i1) rfl ?_
 exact ⟨c1,rfl,R1.out,HB.out⟩
set_option maxHeartbeats 1600000 in
theorem pinvert_any {R:Array Value→Nat→Prop} (C:FePC R) {c:Array Value} {x:Nat} (hx:R c x) (w:World):Calls Tryz.prog 93 #[.agg c] w (RetFe R w (invN x)):=by
 obtain ⟨Z,hZ,rZ⟩:=C.base.zero
 have RZZ:=yh rZ
 clear rZ
 have Rc:=yh hx
 have HXL:Hid (x<PP):=yh (C.base.lt hx)
 clear hx
 have HR0:=yh (((RowsW.nil w).box c 63).box Z 63)
 have HB0:=yh (zae (zae (Below.refl w.heap.size w) c 63) Z 63)
 rw [World.size_alloc] at HR0
 go_enter Tryz.func93,Tryz.ntmps93
 go_upto_region 1 with fail
 obtain ⟨W0,hW0⟩:∃ W,((w.alloc (.cells c 63)).alloc (.cells Z 63))=W:=⟨_,rfl⟩
 obtain ⟨g0,hg0⟩:∃ g,w.heap.size=g:=⟨_,rfl⟩
 rw [hW0] at HR0 HB0
 rw [hg0] at HR0
 rw [hW0,hg0]
 have HG0:=yh hg0
 clear hW0 hg0
 refine wp_region_noPanic ?_
 refine zai 4 3 63 Z (by kernel_rfl) (by kernel_rfl) ⟨by kernel_rfl,by kernel_rfl,hZ,fun _ _ _ h=>h⟩ (fun hA hS=>?_)
 refine' yD 0 hA hS ?_ (hy:=fun W hSW=>zad rfl rfl (HR0.out.below hSW).tail.head Tryz.underlying63 rfl (C.base.info Rc.out))
 refine' yD 2 hA hS ?_ (hy:=fun W hSW=>zad rfl rfl (HR0.out.below hSW).tail.head Tryz.underlying63 rfl (C.base.info Rc.out))
 refine xE 1 hA hS (fun oq2 Xq2 hS K hK=>?_)
 go_simp
 obtain ⟨n1,Hn1,HLn1⟩:=ym (K:=PP) ((x*x) % PP) (Nat.mod_lt _ (by decide))
 with_reducible refine ((C.square Rc.out) _).mono ?_
 rintro e vq2 ⟨cq2,rfl,rq2,hbq2⟩
 rw [Hn1.out] at rq2
 have Rq2:=yh rq2
 clear rq2
 refine hK.out _ _ hbq2 (fun hS=>?_)
 clear hK K hbq2
 refine xE 3 hA hS (fun oq4 Xq4 hS K hK=>?_)
 go_simp
 obtain ⟨n3,Hn3,HLn3⟩:=ym (K:=PP) ((n1*x) % PP) (Nat.mod_lt _ (by decide))
 with_reducible refine ((C.mul Rq2.out Rc.out) _).mono ?_
 rintro e vq4 ⟨cq4,rfl,rq4,hbq4⟩
 rw [Hn3.out] at rq4
 have Rq4:=yh rq4
 clear rq4
 refine hK.out _ _ hbq4 (fun hS=>?_)
 clear hK K hbq4
 refine' zax 5 hA rfl (by kernel_rfl) (by kernel_rfl) (by kernel_rfl) hS (by kernel_rfl) rfl (by intro h;cases h) (C.base.info Rq4.out) (C.base.size RZZ.out Rq4.out) (C.base.one Rq4.out) ?_ ?_
 rotate_left 1
 ·intro g;simp only [List.set_cons_succ,List.set_cons_zero];rfl
 intro gq5 Wq5 hgq5 hbq5 hrowq5
 clear hA hS
 refine wpAnyH_done (by kernel_rfl) ?_ _
 refine NoPanic.normal ?_
 (try simp only [Act.put])
 have HRq5:Hid (RowsW Wq5 [(gq5,cq4,63),((g0+1),Z,63),(g0,c,63)]):=yh ⟨hrowq5,HR0.out.below hbq5⟩
 have HBq5:=yh (zaa HB0.out hbq5)
 have NEq5_0:Hid (g0≠gq5):=yh (by have h:=HR0.out.lt (g0,c,63) (by simp);have:=hgq5;simp only at h;omega)
 have NEq5_1:Hid ((g0+1)≠gq5):=yh (by have h:=HR0.out.lt ((g0+1),Z,63) (by simp);have:=hgq5;simp only at h;omega)
 have HGq5:=yh (Nat.le_trans HB0.out.size hgq5)
 clear hrowq5 hbq5 hgq5
 go_upto_region 2 with fail
 refine wp_region_noPanic ?_
 refine zah (S:=fun W=>Below Wq5.heap.size Wq5 W) 5 (by kernel_rfl) ⟨by kernel_rfl,by kernel_rfl,by kernel_rfl,by kernel_rfl⟩ (by exact (Below.refl _ _).drew) (fun hT inv hS=>?_)
 refine' yT 0 hT inv hS (fun inv=>?_) (hy:=fun W hSW=>zad rfl rfl (HRq5.out.below hSW).tail.tail.head Tryz.underlying63 rfl (C.base.info Rc.out))
 refine' yT 3 hT inv hS (fun inv=>?_) (hy:=fun W hSW=>zad rfl rfl (HRq5.out.below hSW).head Tryz.underlying63 rfl (C.base.info Rq4.out))
 refine xT 1 inv (fun K hK=>?_)
 go_simp
 obtain ⟨n6,Hn6,HLn6⟩:=ym (K:=PP) (pwN x KP) (pwN_lt _ _)
 with_reducible refine ((peighth_any C Rc.out) _).mono ?_
 rintro e vq7 ⟨cq7,rfl,rq7,hbq7⟩
 rw [Hn6.out] at rq7
 have Rq7:=yh rq7
 clear rq7
 have kbq7:=zaa hS hbq7
 clear hS hbq7
 refine hK.out _ _ (by exact kbq7) (fun inv hS=>?_)
 clear hK K
 refine xT 2 inv (fun K hK=>?_)
 go_simp
 obtain ⟨n8,Hn8,HLn8⟩:=ym (K:=PP) (pwN n6 (2^3)) (pwN_lt _ _)
 have o10:∀ W:World,Calls Tryz.prog 133 #[.agg cq7,.int .i64 3] W (RetFe R W (pwN n6 (2^3))):=fun W=>psquared_any C Rq7.out 3 (by decide) W
 with_reducible refine (o10 _).mono ?_
 rintro e vq9 ⟨cq9,rfl,rq9,hbq9⟩
 rw [Hn8.out] at rq9
 have Rq9:=yh rq9
 clear rq9
 have kbq9:=zaa kbq7 hbq9
 clear hS hbq9
 refine hK.out _ _ (by exact kbq9) (fun inv hS=>?_)
 clear hK K
 refine xT 4 inv (fun K hK=>?_)
 go_simp
 obtain ⟨n10,Hn10,HLn10⟩:=ym (K:=PP) ((n8*n3) % PP) (Nat.mod_lt _ (by decide))
 with_reducible refine ((C.mul Rq9.out Rq4.out) _).mono ?_
 rintro e vq11 ⟨cq11,rfl,rq11,hbq11⟩
 rw [Hn10.out] at rq11
 have Rq11:=yh rq11
 clear rq11
 have kbq11:=zaa kbq9 hbq11
 clear hS hbq11
 refine hK.out _ _ (by exact kbq11) (fun inv hS=>?_)
 clear hK K
 refine zaD (by kernel_rfl) ?_
 simp only [List.drop_succ_cons,List.drop_zero]
 clear hS
 (try simp only [Act.put])
 have HRq12:=yh (HRq5.out.below kbq11)
 have HBq12:=yh (zaa HBq5.out kbq11)
 have lsq13:=HRq12.out.tail.head
 have HRq13:Hid (RowsW (vq11.setRow (g0+1) cq11) [(gq5,cq4,63),((g0+1),cq11,63),(g0,c,63)]):=yh ⟨(by rw [setRow_other _ _ _ _ (Ne.symm NEq5_1.out)];exact HRq12.out.head),setRow_heap _ _ _ _ _ _ lsq13,(by rw [setRow_other _ _ _ _ (by omega)];exact HRq12.out.tail.tail.head),trivial⟩
 have HBq13:=yh (zac (g:=(g0+1)) (cs:=cq11) HBq12.out (by have:=HG0.out;omega))
 go_wp2_with (refine yj cq11 lsq13 (C.base.info Rq11.out) (C.base.size RZZ.out Rq11.out) (C.base.one Rq11.out) ?_)
 obtain ⟨Wq13,hWq13⟩:∃ W,vq11.setRow (g0+1) cq11=W:=⟨_,rfl⟩
 rw [hWq13] at HRq13 HBq13
 (try rw [hWq13])
 clear hWq13 lsq13
 refine NoPanic.normal ?_
 go_wp2_with fail
 (try simp only [Exit.inBlock,Exit.then])
 refine bodyPost_ret (results_cell_row rfl _ _ (g0+1) _ cq11 _ _ rfl HRq13.out.tail.head Tryz.underlying63 rfl (C.base.info Rq11.out)) rfl ?_
 exact ⟨_,rfl,by rw [show invN x=n10 by rw [← Hn10.out,← Hn8.out,← Hn6.out,← Hn3.out,← Hn1.out];exact (invert_is HXL.out).symm];exact Rq11.out,HBq13.out⟩
set_option maxHeartbeats 3200000 in
theorem pratio_any {R:Array Value→Nat→Prop} (C:FePC R) {c d:Array Value} {u v:Nat} (hu:R c u) (hv:R d v) (w:World):Calls Tryz.prog 80 #[.agg c,.agg d] w (RetFeB R w (ratN u v) (fineN u v)):=by
 obtain ⟨Z,hZ,rZ⟩:=C.base.zero
 have RZZ:=yh rZ
 clear rZ
 have Rc:=yh hu
 have HUL:Hid (u<PP):=yh (C.base.lt hu)
 clear hu
 have Rd:=yh hv
 have HVL:Hid (v<PP):=yh (C.base.lt hv)
 clear hv
 have HR0:=yh ((((RowsW.nil w).box c 63).box d 63).box Z 63)
 have HB0:=yh (zae (zae (zae (Below.refl w.heap.size w) c 63) d 63) Z 63)
 rw [World.size_alloc] at HR0
 rw [World.size_alloc] at HR0
 go_enter Tryz.func80,Tryz.ntmps80
 go_upto_region 1 with fail
 obtain ⟨W0,hW0⟩:∃ W,(((w.alloc (.cells c 63)).alloc (.cells d 63)).alloc (.cells Z 63))=W:=⟨_,rfl⟩
 obtain ⟨g0,hg0⟩:∃ g,w.heap.size=g:=⟨_,rfl⟩
 rw [hW0] at HR0 HB0
 rw [hg0] at HR0
 rw [hW0,hg0]
 have HG0:=yh hg0
 clear hW0 hg0
 refine wp_region_noPanic ?_
 refine zai 6 6 63 Z (by kernel_rfl) (by kernel_rfl) ⟨by kernel_rfl,by kernel_rfl,hZ,fun _ _ _ h=>h⟩ (fun hA hS=>?_)
 refine' yD 0 hA hS ?_ (hy:=fun W hSW=>zad rfl rfl (HR0.out.below hSW).tail.tail.head Tryz.underlying63 rfl (C.base.info Rc.out))
 refine' yD 1 hA hS ?_ (hy:=fun W hSW=>zad rfl rfl (HR0.out.below hSW).tail.tail.head Tryz.underlying63 rfl (C.base.info Rc.out))
 refine' yD 2 hA hS ?_ (hy:=fun W hSW=>zad rfl rfl (HR0.out.below hSW).tail.head Tryz.underlying63 rfl (C.base.info Rd.out))
 refine xE 3 hA hS (fun oq2 Xq2 hS K hK=>?_)
 go_simp
 obtain ⟨n1,Hn1,HLn1⟩:=ym (K:=PP) ((u*v) % PP) (Nat.mod_lt _ (by decide))
 with_reducible refine ((C.mul Rc.out Rd.out) _).mono ?_
 rintro e vq2 ⟨cq2,rfl,rq2,hbq2⟩
 rw [Hn1.out] at rq2
 have Rq2:=yh rq2
 clear rq2
 refine hK.out _ _ hbq2 (fun hS=>?_)
 clear hK K hbq2
 refine xE 4 hA hS (fun oq4 Xq4 hS K hK=>?_)
 go_simp
 obtain ⟨n3,Hn3,HLn3⟩:=ym (K:=PP) (pwN n1 KP) (pwN_lt _ _)
 with_reducible refine ((peighth_any C Rq2.out) _).mono ?_
 rintro e vq4 ⟨cq4,rfl,rq4,hbq4⟩
 rw [Hn3.out] at rq4
 have Rq4:=yh rq4
 clear rq4
 refine hK.out _ _ hbq4 (fun hS=>?_)
 clear hK K hbq4
 refine xE 5 hA hS (fun oq6 Xq6 hS K hK=>?_)
 go_simp
 obtain ⟨n5,Hn5,HLn5⟩:=ym (K:=PP) ((u*n3) % PP) (Nat.mod_lt _ (by decide))
 with_reducible refine ((C.mul Rc.out Rq4.out) _).mono ?_
 rintro e vq6 ⟨cq6,rfl,rq6,hbq6⟩
 rw [Hn5.out] at rq6
 have Rq6:=yh rq6
 clear rq6
 refine hK.out _ _ hbq6 (fun hS=>?_)
 clear hK K hbq6
 refine' zax 7 hA rfl (by kernel_rfl) (by kernel_rfl) (by kernel_rfl) hS (by kernel_rfl) rfl (by intro h;cases h) (C.base.info Rq6.out) (C.base.size RZZ.out Rq6.out) (C.base.one Rq6.out) ?_ ?_
 rotate_left 1
 ·intro g;simp only [List.set_cons_succ,List.set_cons_zero];rfl
 intro gq7 Wq7 hgq7 hbq7 hrowq7
 clear hA hS
 refine wpAnyH_done (by kernel_rfl) ?_ _
 refine NoPanic.normal ?_
 (try simp only [Act.put])
 have HRq7:Hid (RowsW Wq7 [(gq7,cq6,63),((g0+1+1),Z,63),((g0+1),d,63),(g0,c,63)]):=yh ⟨hrowq7,HR0.out.below hbq7⟩
 have HBq7:=yh (zaa HB0.out hbq7)
 have NEq7_0:Hid (g0≠gq7):=yh (by have h:=HR0.out.lt (g0,c,63) (by simp);have:=hgq7;simp only at h;omega)
 have NEq7_1:Hid ((g0+1)≠gq7):=yh (by have h:=HR0.out.lt ((g0+1),d,63) (by simp);have:=hgq7;simp only at h;omega)
 have NEq7_2:Hid ((g0+1+1)≠gq7):=yh (by have h:=HR0.out.lt ((g0+1+1),Z,63) (by simp);have:=hgq7;simp only at h;omega)
 have HGq7:=yh (Nat.le_trans HB0.out.size hgq7)
 clear hrowq7 hbq7 hgq7
 go_upto_region 2 with fail
 refine wp_region_noPanic ?_
 refine zai 4 7 63 Z (by kernel_rfl) (by kernel_rfl) ⟨by kernel_rfl,by kernel_rfl,hZ,fun _ _ _ h=>h⟩ (fun hA hS=>?_)
 refine' yD 0 hA hS ?_ (hy:=fun W hSW=>zad rfl rfl (HRq7.out.below hSW).tail.tail.head Tryz.underlying63 rfl (C.base.info Rd.out))
 refine' yD 1 hA hS ?_ (hy:=fun W hSW=>zad rfl rfl (HRq7.out.below hSW).head Tryz.underlying63 rfl (C.base.info Rq6.out))
 refine xE 2 hA hS (fun oq9 Xq9 hS K hK=>?_)
 go_simp
 obtain ⟨n8,Hn8,HLn8⟩:=ym (K:=PP) ((n5*n5) % PP) (Nat.mod_lt _ (by decide))
 with_reducible refine ((C.square Rq6.out) _).mono ?_
 rintro e vq9 ⟨cq9,rfl,rq9,hbq9⟩
 rw [Hn8.out] at rq9
 have Rq9:=yh rq9
 clear rq9
 refine hK.out _ _ hbq9 (fun hS=>?_)
 clear hK K hbq9
 refine xE 3 hA hS (fun oq11 Xq11 hS K hK=>?_)
 go_simp
 obtain ⟨n10,Hn10,HLn10⟩:=ym (K:=PP) ((v*n8) % PP) (Nat.mod_lt _ (by decide))
 with_reducible refine ((C.mul Rd.out Rq9.out) _).mono ?_
 rintro e vq11 ⟨cq11,rfl,rq11,hbq11⟩
 rw [Hn10.out] at rq11
 have Rq11:=yh rq11
 clear rq11
 refine hK.out _ _ hbq11 (fun hS=>?_)
 clear hK K hbq11
 refine' zax 5 hA rfl (by kernel_rfl) (by kernel_rfl) (by kernel_rfl) hS (by kernel_rfl) rfl (by intro h;cases h) (C.base.info Rq11.out) (C.base.size RZZ.out Rq11.out) (C.base.one Rq11.out) ?_ ?_
 rotate_left 1
 ·intro g;simp only [List.set_cons_succ,List.set_cons_zero];rfl
 intro gq12 Wq12 hgq12 hbq12 hrowq12
 clear hA hS
 refine wpAnyH_done (by kernel_rfl) ?_ _
 refine NoPanic.normal ?_
 (try simp only [Act.put])
 have HRq12:Hid (RowsW Wq12 [(gq12,cq11,63),(gq7,cq6,63),((g0+1+1),Z,63),((g0+1),d,63),(g0,c,63)]):=yh ⟨hrowq12,HRq7.out.below hbq12⟩
 have HBq12:=yh (zaa HBq7.out hbq12)
 have NEq12_0:Hid (g0≠gq12):=yh (by have h:=HRq7.out.lt (g0,c,63) (by simp);have:=hgq12;simp only at h;omega)
 have NEq12_1:Hid ((g0+1)≠gq12):=yh (by have h:=HRq7.out.lt ((g0+1),d,63) (by simp);have:=hgq12;simp only at h;omega)
 have NEq12_2:Hid ((g0+1+1)≠gq12):=yh (by have h:=HRq7.out.lt ((g0+1+1),Z,63) (by simp);have:=hgq12;simp only at h;omega)
 have NEq12_3:Hid (gq7≠gq12):=yh (by have h:=HRq7.out.lt (gq7,cq6,63) (by simp);have:=hgq12;simp only at h;omega)
 have HGq12:=yh (Nat.le_trans HBq7.out.size hgq12)
 clear hrowq12 hbq12 hgq12
 go_upto_region 3 with fail
 obtain ⟨n13,Hn13,HLn13⟩:=ym (K:=PP) ((PP-u) % PP) (Nat.mod_lt _ (by decide))
 obtain ⟨n14,Hn14,HLn14⟩:=ym (K:=PP) ((n5*qI) % PP) (Nat.mod_lt _ (by decide))
 have HF:Hid (F25519.c n10=F25519.c u*(F25519.c u*F25519.c v)^(2*KP+1)):=yh (by have h:=ratio_found (u:=u) (v:=v);rw [Hn1.out,Hn3.out,Hn5.out,Hn8.out,Hn10.out] at h;exact h)
 have HZ0:Hid (v=0→n5=0):=yh (by intro e;have h:(u*pwN ((u*v) % PP) KP) % PP=0:=by { rw [e];exact ratio_zero };rw [Hn1.out,Hn3.out,Hn5.out] at h;exact h)
 by_cases h1:n10=u
 ·have H1:=yh h1
  clear h1
  have l15:=HRq12.out.head
  have l16:=HRq12.out.tail.tail.tail.tail.head
  go_wp2_with (first
    | (refine yi l15 Tryz.underlying63 (C.base.info Rq11.out) ?_)
    | (refine yi l16 Tryz.underlying63 (C.base.info Rc.out) ?_))
  have kq17:=fun W:World=>(C.equal Rq11.out Rc.out) W
  rw [decide_eq_true (show n10=u from H1.out)] at kq17
  have Kq17:=yh kq17
  clear kq17
  with_reducible refine (Kq17.out _).mono ?_
  rintro e vq17 ⟨rfl,hbq17⟩
  have HRq17:=yh (HRq12.out.below hbq17)
  have HBq17:=yh (zaa HBq12.out hbq17)
  clear hbq17
  go_upto_region 7 with fail
  by_cases hod:n5 % 2=1
  ·have HOD:=yh hod
   clear hod
   have l18:=HRq17.out.tail.head
   go_wp2_with (refine yi l18 Tryz.underlying63 (C.base.info Rq6.out) ?_)
   have Ht19:Hid (decide (n5 % 2=1)=true):=yh (decide_eq_true HOD.out)
   have kq20:=fun W:World=>(C.odd Rq6.out) W
   rw [Ht19.out] at kq20
   have Kq20:=yh kq20
   clear kq20
   with_reducible refine (Kq20.out _).mono ?_
   rintro e vq20 ⟨rfl,hbq20⟩
   have HRq20:=yh (HRq17.out.below hbq20)
   have HBq20:=yh (zaa HBq17.out hbq20)
   clear hbq20
   go_upto_region 8 with fail
   have l21:=HRq20.out.tail.head
   go_wp2_with (refine yi l21 Tryz.underlying63 (C.base.info Rq6.out) ?_)
   obtain ⟨n22,Hn22,HLn22⟩:=ym (K:=PP) ((PP-n5) % PP) (Nat.mod_lt _ (by decide))
   with_reducible refine ((C.neg Rq6.out) _).mono ?_
   rintro e vq23 ⟨cq23,rfl,rq23,hbq23⟩
   rw [Hn22.out] at rq23
   have Rq23:=yh rq23
   clear rq23
   have HRq23:=yh (HRq20.out.below hbq23)
   have HBq23:=yh (zaa HBq20.out hbq23)
   clear hbq23
   have lsq24:=HRq23.out.tail.head
   have HRq24:Hid (RowsW (vq23.setRow gq7 cq23) [(gq12,cq11,63),(gq7,cq23,63),((g0+1+1),Z,63),((g0+1),d,63),(g0,c,63)]):=yh ⟨(by rw [setRow_other _ _ _ _ (Ne.symm NEq12_3.out)];exact HRq23.out.head),setRow_heap _ _ _ _ _ _ lsq24,(by rw [setRow_other _ _ _ _ NEq7_2.out];exact HRq23.out.tail.tail.head),(by rw [setRow_other _ _ _ _ NEq7_1.out];exact HRq23.out.tail.tail.tail.head),(by rw [setRow_other _ _ _ _ NEq7_0.out];exact HRq23.out.tail.tail.tail.tail.head),trivial⟩
   have HBq24:=yh (zac (g:=gq7) (cs:=cq23) HBq23.out HGq7.out)
   go_upto_region 9 with (refine yj cq23 lsq24 (C.base.info Rq23.out) (C.base.size Rq6.out Rq23.out) (C.base.one Rq23.out) ?_)
   obtain ⟨Wq24,hWq24⟩:∃ W,vq23.setRow gq7 cq23=W:=⟨_,rfl⟩
   rw [hWq24] at HRq24 HBq24
   (try rw [hWq24])
   clear hWq24 lsq24
   have l25:=HRq24.out.tail.head
   have lsq26:=HRq24.out.tail.tail.head
   have HRq26:Hid (RowsW (Wq24.setRow (g0+1+1) cq23) [(gq12,cq11,63),(gq7,cq23,63),((g0+1+1),cq23,63),((g0+1),d,63),(g0,c,63)]):=yh ⟨(by rw [setRow_other _ _ _ _ (Ne.symm NEq12_2.out)];exact HRq24.out.head),(by rw [setRow_other _ _ _ _ (Ne.symm NEq7_2.out)];exact HRq24.out.tail.head),setRow_heap _ _ _ _ _ _ lsq26,(by rw [setRow_other _ _ _ _ (by omega)];exact HRq24.out.tail.tail.tail.head),(by rw [setRow_other _ _ _ _ (by omega)];exact HRq24.out.tail.tail.tail.tail.head),trivial⟩
   have HBq26:=yh (zac (g:=(g0+1+1)) (cs:=cq23) HBq24.out (by have:=HG0.out;omega))
   go_wp2_with (first
     | (refine yi l25 Tryz.underlying63 (C.base.info Rq23.out) ?_)
     | (refine yj cq23 lsq26 (C.base.info Rq23.out) (C.base.size RZZ.out Rq23.out) (C.base.one Rq23.out) ?_))
   obtain ⟨Wq26,hWq26⟩:∃ W,Wq24.setRow (g0+1+1) cq23=W:=⟨_,rfl⟩
   rw [hWq26] at HRq26 HBq26
   (try rw [hWq26])
   clear hWq26 lsq26
   (try simp only [Exit.inBlock,Exit.then])
   refine bodyPost_ret (zaE rfl _ _ (g0+1+1) _ cq23 _ _ (.bool true) rfl rfl HRq26.out.tail.tail.head Tryz.underlying63 rfl (C.base.info Rq23.out)) rfl ?_
   obtain ⟨e1,e2⟩:=(show ratN u v=fixN n5∧fineN u v=true from ratio_is HUL.out HVL.out HLn5.out (by rw [Hn8.out,Hn10.out];exact H1.out) HZ0.out)
   rw [show fixN n5=n22 by rw [← Hn22.out];exact fix_odd HOD.out] at e1
   exact ⟨_,by rw [e2],by rw [e1];exact Rq23.out,HBq26.out⟩
  ·have HOD:=yh hod
   clear hod
   have l27:=HRq17.out.tail.head
   go_wp2_with (refine yi l27 Tryz.underlying63 (C.base.info Rq6.out) ?_)
   have Ht28:Hid (decide (n5 % 2=1)=false):=yh (decide_eq_false HOD.out)
   have kq29:=fun W:World=>(C.odd Rq6.out) W
   rw [Ht28.out] at kq29
   have Kq29:=yh kq29
   clear kq29
   with_reducible refine (Kq29.out _).mono ?_
   rintro e vq29 ⟨rfl,hbq29⟩
   have HRq29:=yh (HRq17.out.below hbq29)
   have HBq29:=yh (zaa HBq17.out hbq29)
   clear hbq29
   go_upto_region 9 with fail
   have l30:=HRq29.out.tail.head
   have lsq31:=HRq29.out.tail.tail.head
   have HRq31:Hid (RowsW (vq29.setRow (g0+1+1) cq6) [(gq12,cq11,63),(gq7,cq6,63),((g0+1+1),cq6,63),((g0+1),d,63),(g0,c,63)]):=yh ⟨(by rw [setRow_other _ _ _ _ (Ne.symm NEq12_2.out)];exact HRq29.out.head),(by rw [setRow_other _ _ _ _ (Ne.symm NEq7_2.out)];exact HRq29.out.tail.head),setRow_heap _ _ _ _ _ _ lsq31,(by rw [setRow_other _ _ _ _ (by omega)];exact HRq29.out.tail.tail.tail.head),(by rw [setRow_other _ _ _ _ (by omega)];exact HRq29.out.tail.tail.tail.tail.head),trivial⟩
   have HBq31:=yh (zac (g:=(g0+1+1)) (cs:=cq6) HBq29.out (by have:=HG0.out;omega))
   go_wp2_with (first
     | (refine yi l30 Tryz.underlying63 (C.base.info Rq6.out) ?_)
     | (refine yj cq6 lsq31 (C.base.info Rq6.out) (C.base.size RZZ.out Rq6.out) (C.base.one Rq6.out) ?_))
   obtain ⟨Wq31,hWq31⟩:∃ W,vq29.setRow (g0+1+1) cq6=W:=⟨_,rfl⟩
   rw [hWq31] at HRq31 HBq31
   (try rw [hWq31])
   clear hWq31 lsq31
   (try simp only [Exit.inBlock,Exit.then])
   refine bodyPost_ret (zaE rfl _ _ (g0+1+1) _ cq6 _ _ (.bool true) rfl rfl HRq31.out.tail.tail.head Tryz.underlying63 rfl (C.base.info Rq6.out)) rfl ?_
   obtain ⟨e1,e2⟩:=(show ratN u v=fixN n5∧fineN u v=true from ratio_is HUL.out HVL.out HLn5.out (by rw [Hn8.out,Hn10.out];exact H1.out) HZ0.out)
   rw [show fixN n5=n5 from fix_even HOD.out] at e1
   exact ⟨_,by rw [e2],by rw [e1];exact Rq6.out,HBq31.out⟩
 ·have H1:=yh h1
  clear h1
  have l32:=HRq12.out.head
  have l33:=HRq12.out.tail.tail.tail.tail.head
  go_wp2_with (first
    | (refine yi l32 Tryz.underlying63 (C.base.info Rq11.out) ?_)
    | (refine yi l33 Tryz.underlying63 (C.base.info Rc.out) ?_))
  have kq34:=fun W:World=>(C.equal Rq11.out Rc.out) W
  rw [decide_eq_false (show ¬ n10=u from H1.out)] at kq34
  have Kq34:=yh kq34
  clear kq34
  with_reducible refine (Kq34.out _).mono ?_
  rintro e vq34 ⟨rfl,hbq34⟩
  have HRq34:=yh (HRq12.out.below hbq34)
  have HBq34:=yh (zaa HBq12.out hbq34)
  clear hbq34
  go_upto_region 4 with fail
  by_cases h2:n10=n13
  ·have H2:=yh h2
   clear h2
   refine wp_region_noPanic ?_
   refine wp_region_held_drew (S:=fun W=>Below vq34.heap.size vq34 W) (by kernel_rfl) (by exact (Below.refl _ _).drew) (fun hS=>?_)
   refine' yk 0  hS ?_ (hy:=fun W hSW=>zad rfl rfl (HRq34.out.below hSW).head Tryz.underlying63 rfl (C.base.info Rq11.out))
   refine' yk 1  hS ?_ (hy:=fun W hSW=>zad rfl rfl (HRq34.out.below hSW).tail.tail.tail.tail.head Tryz.underlying63 rfl (C.base.info Rc.out))
   refine xk 2  (fun K hK=>?_)
   go_simp
   with_reducible refine ((C.neg Rc.out) _).mono ?_
   rintro e vq35 ⟨cq35,rfl,rq35,hbq35⟩
   rw [Hn13.out] at rq35
   have Rq35:=yh rq35
   clear rq35
   have kbq35:=zaa hS hbq35
   clear hS hbq35
   refine hK.out _ _ (by exact kbq35) (fun hS=>?_)
   clear hK K
   refine xk 3  (fun K hK=>?_)
   go_simp
   have kq36:=fun W:World=>(C.equal Rq11.out Rq35.out) W
   rw [decide_eq_true (show n10=n13 from H2.out)] at kq36
   have Kq36:=yh kq36
   clear kq36
   with_reducible refine (Kq36.out _).mono ?_
   rintro e vq36 ⟨rfl,hbq36⟩
   have kbq36:=zaa kbq35 hbq36
   clear hS hbq36
   refine hK.out _ _ (by exact kbq36) (fun hS=>?_)
   clear hK K
   refine' yk 4  hS ?_
   refine wpAnyH_done (by kernel_rfl) ?_ _
   refine NoPanic.normal ?_
   clear hS
   (try simp only [Act.put])
   have HRq37:=yh (HRq34.out.below kbq36)
   have HBq37:=yh (zaa HBq34.out kbq36)
   go_upto_region 6 with fail
   refine wp_region_noPanic ?_
   refine zah (S:=fun W=>Below vq36.heap.size vq36 W) 3 (by kernel_rfl) ⟨by kernel_rfl,by kernel_rfl,by kernel_rfl,by kernel_rfl⟩ (by exact (Below.refl _ _).drew) (fun hT inv hS=>?_)
   refine' yT 0 hT inv hS (fun inv=>?_) (hy:=fun W hSW=>zad rfl rfl (HRq37.out.below hSW).tail.head Tryz.underlying63 rfl (C.base.info Rq6.out))
   refine xT 1 inv (fun K hK=>?_)
   go_simp
   with_reducible refine ((fun W=>prootm_any C W) _).mono ?_
   rintro e vq38 ⟨cq38,rfl,rq38,hbq38⟩
   have Rq38:=yh rq38
   clear rq38
   have kbq38:=zaa hS hbq38
   clear hS hbq38
   refine hK.out _ _ (by exact kbq38) (fun inv hS=>?_)
   clear hK K
   refine xT 2 inv (fun K hK=>?_)
   go_simp
   with_reducible refine ((C.mul Rq6.out Rq38.out) _).mono ?_
   rintro e vq39 ⟨cq39,rfl,rq39,hbq39⟩
   rw [Hn14.out] at rq39
   have Rq39:=yh rq39
   clear rq39
   have kbq39:=zaa kbq38 hbq39
   clear hS hbq39
   refine hK.out _ _ (by exact kbq39) (fun inv hS=>?_)
   clear hK K
   refine zaD (by kernel_rfl) ?_
   simp only [List.drop_succ_cons,List.drop_zero]
   clear hS
   (try simp only [Act.put])
   have HRq40:=yh (HRq37.out.below kbq39)
   have HBq40:=yh (zaa HBq37.out kbq39)
   have lsq41:=HRq40.out.tail.head
   have HRq41:Hid (RowsW (vq39.setRow gq7 cq39) [(gq12,cq11,63),(gq7,cq39,63),((g0+1+1),Z,63),((g0+1),d,63),(g0,c,63)]):=yh ⟨(by rw [setRow_other _ _ _ _ (Ne.symm NEq12_3.out)];exact HRq40.out.head),setRow_heap _ _ _ _ _ _ lsq41,(by rw [setRow_other _ _ _ _ NEq7_2.out];exact HRq40.out.tail.tail.head),(by rw [setRow_other _ _ _ _ NEq7_1.out];exact HRq40.out.tail.tail.tail.head),(by rw [setRow_other _ _ _ _ NEq7_0.out];exact HRq40.out.tail.tail.tail.tail.head),trivial⟩
   have HBq41:=yh (zac (g:=gq7) (cs:=cq39) HBq40.out HGq7.out)
   go_wp2_with (refine yj cq39 lsq41 (C.base.info Rq39.out) (C.base.size Rq6.out Rq39.out) (C.base.one Rq39.out) ?_)
   obtain ⟨Wq41,hWq41⟩:∃ W,vq39.setRow gq7 cq39=W:=⟨_,rfl⟩
   rw [hWq41] at HRq41 HBq41
   (try rw [hWq41])
   clear hWq41 lsq41
   refine NoPanic.normal ?_
   go_upto_region 7 with fail
   obtain ⟨n42,Hn42,HLn42⟩:=ym (K:=PP) ((n14*n14) % PP) (Nat.mod_lt _ (by decide))
   by_cases hod:n14 % 2=1
   ·have HOD:=yh hod
    clear hod
    have l43:=HRq41.out.tail.head
    go_wp2_with (refine yi l43 Tryz.underlying63 (C.base.info Rq39.out) ?_)
    have Ht44:Hid (decide (n14 % 2=1)=true):=yh (decide_eq_true HOD.out)
    have kq45:=fun W:World=>(C.odd Rq39.out) W
    rw [Ht44.out] at kq45
    have Kq45:=yh kq45
    clear kq45
    with_reducible refine (Kq45.out _).mono ?_
    rintro e vq45 ⟨rfl,hbq45⟩
    have HRq45:=yh (HRq41.out.below hbq45)
    have HBq45:=yh (zaa HBq41.out hbq45)
    clear hbq45
    go_upto_region 8 with fail
    have l46:=HRq45.out.tail.head
    go_wp2_with (refine yi l46 Tryz.underlying63 (C.base.info Rq39.out) ?_)
    obtain ⟨n47,Hn47,HLn47⟩:=ym (K:=PP) ((PP-n14) % PP) (Nat.mod_lt _ (by decide))
    with_reducible refine ((C.neg Rq39.out) _).mono ?_
    rintro e vq48 ⟨cq48,rfl,rq48,hbq48⟩
    rw [Hn47.out] at rq48
    have Rq48:=yh rq48
    clear rq48
    have HRq48:=yh (HRq45.out.below hbq48)
    have HBq48:=yh (zaa HBq45.out hbq48)
    clear hbq48
    have lsq49:=HRq48.out.tail.head
    have HRq49:Hid (RowsW (vq48.setRow gq7 cq48) [(gq12,cq11,63),(gq7,cq48,63),((g0+1+1),Z,63),((g0+1),d,63),(g0,c,63)]):=yh ⟨(by rw [setRow_other _ _ _ _ (Ne.symm NEq12_3.out)];exact HRq48.out.head),setRow_heap _ _ _ _ _ _ lsq49,(by rw [setRow_other _ _ _ _ NEq7_2.out];exact HRq48.out.tail.tail.head),(by rw [setRow_other _ _ _ _ NEq7_1.out];exact HRq48.out.tail.tail.tail.head),(by rw [setRow_other _ _ _ _ NEq7_0.out];exact HRq48.out.tail.tail.tail.tail.head),trivial⟩
    have HBq49:=yh (zac (g:=gq7) (cs:=cq48) HBq48.out HGq7.out)
    go_upto_region 9 with (refine yj cq48 lsq49 (C.base.info Rq48.out) (C.base.size Rq39.out Rq48.out) (C.base.one Rq48.out) ?_)
    obtain ⟨Wq49,hWq49⟩:∃ W,vq48.setRow gq7 cq48=W:=⟨_,rfl⟩
    rw [hWq49] at HRq49 HBq49
    (try rw [hWq49])
    clear hWq49 lsq49
    have l50:=HRq49.out.tail.head
    have lsq51:=HRq49.out.tail.tail.head
    have HRq51:Hid (RowsW (Wq49.setRow (g0+1+1) cq48) [(gq12,cq11,63),(gq7,cq48,63),((g0+1+1),cq48,63),((g0+1),d,63),(g0,c,63)]):=yh ⟨(by rw [setRow_other _ _ _ _ (Ne.symm NEq12_2.out)];exact HRq49.out.head),(by rw [setRow_other _ _ _ _ (Ne.symm NEq7_2.out)];exact HRq49.out.tail.head),setRow_heap _ _ _ _ _ _ lsq51,(by rw [setRow_other _ _ _ _ (by omega)];exact HRq49.out.tail.tail.tail.head),(by rw [setRow_other _ _ _ _ (by omega)];exact HRq49.out.tail.tail.tail.tail.head),trivial⟩
    have HBq51:=yh (zac (g:=(g0+1+1)) (cs:=cq48) HBq49.out (by have:=HG0.out;omega))
    go_wp2_with (first
      | (refine yi l50 Tryz.underlying63 (C.base.info Rq48.out) ?_)
      | (refine yj cq48 lsq51 (C.base.info Rq48.out) (C.base.size RZZ.out Rq48.out) (C.base.one Rq48.out) ?_))
    obtain ⟨Wq51,hWq51⟩:∃ W,Wq49.setRow (g0+1+1) cq48=W:=⟨_,rfl⟩
    rw [hWq51] at HRq51 HBq51
    (try rw [hWq51])
    clear hWq51 lsq51
    (try simp only [Exit.inBlock,Exit.then])
    refine bodyPost_ret (zaE rfl _ _ (g0+1+1) _ cq48 _ _ (.bool true) rfl rfl HRq51.out.tail.tail.head Tryz.underlying63 rfl (C.base.info Rq48.out)) rfl ?_
    obtain ⟨e1,e2⟩:=(show ratN u v=fixN n14∧fineN u v=true from ratio_is HUL.out HVL.out HLn14.out (by have h:=ratio_second (u:=u) (v:=v) (r:=n5) HUL.out (by rw [Hn8.out,Hn10.out,Hn13.out];exact H2.out);rw [Hn14.out] at h;exact h) (fun e=>by rw [← Hn14.out,HZ0.out e,Nat.zero_mul,Nat.zero_mod]))
    rw [show fixN n14=n47 by rw [← Hn47.out];exact fix_odd HOD.out] at e1
    exact ⟨_,by rw [e2],by rw [e1];exact Rq48.out,HBq51.out⟩
   ·have HOD:=yh hod
    clear hod
    have l52:=HRq41.out.tail.head
    go_wp2_with (refine yi l52 Tryz.underlying63 (C.base.info Rq39.out) ?_)
    have Ht53:Hid (decide (n14 % 2=1)=false):=yh (decide_eq_false HOD.out)
    have kq54:=fun W:World=>(C.odd Rq39.out) W
    rw [Ht53.out] at kq54
    have Kq54:=yh kq54
    clear kq54
    with_reducible refine (Kq54.out _).mono ?_
    rintro e vq54 ⟨rfl,hbq54⟩
    have HRq54:=yh (HRq41.out.below hbq54)
    have HBq54:=yh (zaa HBq41.out hbq54)
    clear hbq54
    go_upto_region 9 with fail
    have l55:=HRq54.out.tail.head
    have lsq56:=HRq54.out.tail.tail.head
    have HRq56:Hid (RowsW (vq54.setRow (g0+1+1) cq39) [(gq12,cq11,63),(gq7,cq39,63),((g0+1+1),cq39,63),((g0+1),d,63),(g0,c,63)]):=yh ⟨(by rw [setRow_other _ _ _ _ (Ne.symm NEq12_2.out)];exact HRq54.out.head),(by rw [setRow_other _ _ _ _ (Ne.symm NEq7_2.out)];exact HRq54.out.tail.head),setRow_heap _ _ _ _ _ _ lsq56,(by rw [setRow_other _ _ _ _ (by omega)];exact HRq54.out.tail.tail.tail.head),(by rw [setRow_other _ _ _ _ (by omega)];exact HRq54.out.tail.tail.tail.tail.head),trivial⟩
    have HBq56:=yh (zac (g:=(g0+1+1)) (cs:=cq39) HBq54.out (by have:=HG0.out;omega))
    go_wp2_with (first
      | (refine yi l55 Tryz.underlying63 (C.base.info Rq39.out) ?_)
      | (refine yj cq39 lsq56 (C.base.info Rq39.out) (C.base.size RZZ.out Rq39.out) (C.base.one Rq39.out) ?_))
    obtain ⟨Wq56,hWq56⟩:∃ W,vq54.setRow (g0+1+1) cq39=W:=⟨_,rfl⟩
    rw [hWq56] at HRq56 HBq56
    (try rw [hWq56])
    clear hWq56 lsq56
    (try simp only [Exit.inBlock,Exit.then])
    refine bodyPost_ret (zaE rfl _ _ (g0+1+1) _ cq39 _ _ (.bool true) rfl rfl HRq56.out.tail.tail.head Tryz.underlying63 rfl (C.base.info Rq39.out)) rfl ?_
    obtain ⟨e1,e2⟩:=(show ratN u v=fixN n14∧fineN u v=true from ratio_is HUL.out HVL.out HLn14.out (by have h:=ratio_second (u:=u) (v:=v) (r:=n5) HUL.out (by rw [Hn8.out,Hn10.out,Hn13.out];exact H2.out);rw [Hn14.out] at h;exact h) (fun e=>by rw [← Hn14.out,HZ0.out e,Nat.zero_mul,Nat.zero_mod]))
    rw [show fixN n14=n14 from fix_even HOD.out] at e1
    exact ⟨_,by rw [e2],by rw [e1];exact Rq39.out,HBq56.out⟩
  ·have H2:=yh h2
   clear h2
   refine wp_region_noPanic ?_
   refine wp_region_held_drew (S:=fun W=>Below vq34.heap.size vq34 W) (by kernel_rfl) (by exact (Below.refl _ _).drew) (fun hS=>?_)
   refine' yk 0  hS ?_ (hy:=fun W hSW=>zad rfl rfl (HRq34.out.below hSW).head Tryz.underlying63 rfl (C.base.info Rq11.out))
   refine' yk 1  hS ?_ (hy:=fun W hSW=>zad rfl rfl (HRq34.out.below hSW).tail.tail.tail.tail.head Tryz.underlying63 rfl (C.base.info Rc.out))
   refine xk 2  (fun K hK=>?_)
   go_simp
   with_reducible refine ((C.neg Rc.out) _).mono ?_
   rintro e vq57 ⟨cq57,rfl,rq57,hbq57⟩
   rw [Hn13.out] at rq57
   have Rq57:=yh rq57
   clear rq57
   have kbq57:=zaa hS hbq57
   clear hS hbq57
   refine hK.out _ _ (by exact kbq57) (fun hS=>?_)
   clear hK K
   refine xk 3  (fun K hK=>?_)
   go_simp
   have kq58:=fun W:World=>(C.equal Rq11.out Rq57.out) W
   rw [decide_eq_false (show ¬ n10=n13 from H2.out)] at kq58
   have Kq58:=yh kq58
   clear kq58
   with_reducible refine (Kq58.out _).mono ?_
   rintro e vq58 ⟨rfl,hbq58⟩
   have kbq58:=zaa kbq57 hbq58
   clear hS hbq58
   refine hK.out _ _ (by exact kbq58) (fun hS=>?_)
   clear hK K
   refine' yk 4  hS ?_
   refine wpAnyH_done (by kernel_rfl) ?_ _
   refine NoPanic.normal ?_
   clear hS
   (try simp only [Act.put])
   have HRq59:=yh (HRq34.out.below kbq58)
   have HBq59:=yh (zaa HBq34.out kbq58)
   go_upto_region 5 with fail
   have lsq60:=HRq59.out.tail.tail.head
   have HRq60:Hid (RowsW (vq58.setRow (g0+1+1) Z) [(gq12,cq11,63),(gq7,cq6,63),((g0+1+1),Z,63),((g0+1),d,63),(g0,c,63)]):=yh ⟨(by rw [setRow_other _ _ _ _ (Ne.symm NEq12_2.out)];exact HRq59.out.head),(by rw [setRow_other _ _ _ _ (Ne.symm NEq7_2.out)];exact HRq59.out.tail.head),setRow_heap _ _ _ _ _ _ lsq60,(by rw [setRow_other _ _ _ _ (by omega)];exact HRq59.out.tail.tail.tail.head),(by rw [setRow_other _ _ _ _ (by omega)];exact HRq59.out.tail.tail.tail.tail.head),trivial⟩
   have HBq60:=yh (zac (g:=(g0+1+1)) (cs:=Z) HBq59.out (by have:=HG0.out;omega))
   go_wp2_with (first
     | (refine zaG (o:=⟨some 27,_,_,_,_,_⟩) rfl (.agg Z) (build_zero hZ) ?_)
     | (refine yj Z lsq60 (C.base.info RZZ.out) (C.base.size RZZ.out RZZ.out) (C.base.one RZZ.out) ?_))
   obtain ⟨Wq60,hWq60⟩:∃ W,vq58.setRow (g0+1+1) Z=W:=⟨_,rfl⟩
   rw [hWq60] at HRq60 HBq60
   (try rw [hWq60])
   clear hWq60 lsq60
   (try simp only [Exit.inBlock,Exit.then])
   refine bodyPost_ret (zaE rfl _ _ (g0+1+1) _ Z _ _ (.bool false) rfl rfl HRq60.out.tail.tail.head Tryz.underlying63 rfl (C.base.info RZZ.out)) rfl ?_
   obtain ⟨e1,e2⟩:=ratio_none HUL.out HVL.out HF.out HLn10.out H1.out (by rw [Hn13.out];exact H2.out)
   exact ⟨_,by rw [e2],by rw [e1];exact RZZ.out,HBq60.out⟩
end Go.Proofs.YtkgodlcnoenmbaaGreat
namespace Go.Proofs.YtkgodlcnoenmbaaGreat
open Go.RowKit
set_option linter.unusedVariables false
set_option maxRecDepth 100000
set_option maxHeartbeats 6400000
theorem fe5_info:(Tryz.prog.info? 63).map (·.size)=some 5:=by kernel_rfl
theorem fe5 {R:Array Value→Nat→Prop} (C:FeB R) {a:Array Value} {x:Nat} (h:R a x):a.size=5:=by
 have k:=C.info h
 rw [fe5_info] at k
 injection k with k
 exact k.symm
def z5:Array Value:=#[.int .u64 0,.int .u64 0,.int .u64 0,.int .u64 0,.int .u64 0]
theorem z5_zero (u:World):(zeroValue 63).run Tryz.prog u=.ok (.agg z5) u:=by kernel_rfl
theorem z5_is {Z:Array Value} (h:∀ u,(zeroValue 63).run Tryz.prog u=.ok (.agg Z) u):Z=z5:=by
 have k:=h default
 rw [z5_zero] at k
 injection k with k
 injection k with k
 exact k.symm
theorem zp_zero (u:World):(zeroValue 65).run Tryz.prog u=.ok (.agg (quad z5 z5 z5 z5)) u:=by kernel_rfl
theorem zp_of {Z:Array Value} (h:∀ u,(zeroValue 63).run Tryz.prog u=.ok (.agg Z) u) (u:World):(zeroValue 65).run Tryz.prog u=.ok (.agg (quad Z Z Z Z)) u:=by
 rw [z5_is h];exact zp_zero u
section
variable {R:Array Value→Nat→Prop} {a b d e:Array Value} {x y z t:Nat}
theorem zas (C:FeB R) (ha:R a x) (hb:R b y) (hd:R d z) (he:R e t):(quad a b d e).size=20:=by rw [quad_size,fe5 C ha,fe5 C hb,fe5 C hd,fe5 C he]
theorem zat (C:FeB R) (ha:R a x) (hb:R b y) (hd:R d z) (he:R e t):(Tryz.prog.info? 65).map (·.size)=some (quad a b d e).size:=by rw [zas C ha hb hd he];kernel_rfl
theorem pp_one (C:FeB R) (ha:R a x) (hb:R b y) (hd:R d z) (he:R e t):(quad a b d e).all (·.oneCell')=true:=by rw [quad_one,C.one ha,C.one hb,C.one hd,C.one he];rfl
theorem pp_0 (j:Nat) (h:j<a.size):(quad a b d e)[0+j]?=a[j]?:=quad_0 j h
theorem pp_1 (ha:a.size=5) (j:Nat) (h:j<b.size):(quad a b d e)[5+j]?=b[j]?:=quad_1 ha j h
theorem pp_2 (ha:a.size=5) (hb:b.size=5) (j:Nat) (h:j<d.size):(quad a b d e)[10+j]?=d[j]?:=quad_2 (m:=10) (by rw [ha,hb]) j h
theorem pp_3 (ha:a.size=5) (hb:b.size=5) (hd:d.size=5) (j:Nat) (h:j<e.size):(quad a b d e)[15+j]?=e[j]?:=quad_3 (m:=15) (by rw [ha,hb,hd]) j h
end
def placeF:Array (Nat × Nat):=#[(0,5),(5,5),(10,5),(15,5)]
theorem pp_under:∃ f:Array Field,Tryz.prog.underlying 65=some (.struct f)∧∀ w:World,(f.mapM fun x=>(do pure (x.offset,← sizeOf x.type):Sem (Nat × Nat))).run Tryz.prog w=.ok placeF w :=
 ⟨_,Tryz.underlying65,fun w=>by kernel_rfl⟩
theorem run_buildF {parts:Array (Nat × Value)} {cells:Array Value} (w:World) (h:Instr.fill (fun i=>placeF[i]?) (quad z5 z5 z5 z5) parts.toList=some cells) :
  (Instr.build 65 parts).run Tryz.prog w=.ok (.agg cells) w:=by
 obtain ⟨f,hu,hp⟩:=pp_under
 unfold Instr.build
 rw [Sem.run_bind,zp_zero w,Result.andThen_ok]
 simp only [Sem.run_bind,run_underlying hu w,Result.andThen_ok]
 rw [hp w]
 simp only [Result.andThen_ok,Value.cells]
 have h':Instr.fill (fun x=>placeF[x]?) (quad z5 z5 z5 z5) parts.toList=some cells:=h
 rw [h']
 rfl
theorem run_buildF4 {ρ:Operand→Value} {o:Oper} {w:World} {x0 x1 x2 x3:Operand} {a b c d:Array Value} (ho:o.op=.build 65 #[(0,x0),(1,x1),(2,x2),(3,x3)])
  (h0:ρ x0=.agg a) (h1:ρ x1=.agg b) (h2:ρ x2=.agg c) (h3:ρ x3=.agg d) (sa:a.size=5) (sb:b.size=5) (sc:c.size=5) (sd:d.size=5) :
  (execOp ρ o).run Tryz.prog w=.ok (.value (.agg (quad a b c d))) w:=by
 have s5:z5.size=5:=rfl
 have h:=run_buildF (parts:=#[(0,.agg a),(1,.agg b),(2,.agg c),(3,.agg d)]) (cells:=quad a b c d) w (by
  show Instr.fill _ (quad _ _ _ _) ((0,.agg a) :: (1,.agg b) :: (2,.agg c) :: (3,.agg d) :: [])=_
  rw [fill_0 (by rw [s5,sa]) (by rw [sa];rfl),fill_1 (n:=5) sa (by rw [s5,sb]) (by rw [sb];rfl),fill_2 (n:=10) (by rw [sa,sb]) (by rw [s5,sc]) (by rw [sc];rfl),fill_3 (n:=15) (by rw [sa,sb,sc]) (by rw [s5,sd]) (by rw [sd];rfl)]
  rfl)
 unfold execOp
 simp only [ho,List.map_toArray,List.map_cons,List.map_nil,h0,h1,h2,h3,Sem.run_bind,h,Result.andThen_ok,Sem.run_pure]
theorem run_buildF0 {ρ:Operand→Value} {o:Oper} {w:World} {Z:Array Value} (hZ:∀ u,(zeroValue 65).run Tryz.prog u=.ok (.agg (quad Z Z Z Z)) u) (ho:o.op=.build 65 #[]) :
  (execOp ρ o).run Tryz.prog w=.ok (.value (.agg (quad Z Z Z Z))) w:=by
 unfold execOp
 simp [ho,hZ,go_sem,Instr.build,Instr.fill]
theorem run_build5 {ρ:Operand→Value} {o:Oper} {w:World} {Z:Array Value} (hZ:∀ u,(zeroValue 63).run Tryz.prog u=.ok (.agg Z) u) (ho:o.op=.build 63 #[]) :
  (execOp ρ o).run Tryz.prog w=.ok (.value (.agg Z)) w:=by
 unfold execOp
 simp [ho,hZ,go_sem,Instr.build,Instr.fill]
def RetPP (R:Array Value→Nat→Prop) (W:World) (X Y Z T:Nat) (e:Ending) (w':World):Prop:=∃ a b d f,e=.returned (.agg (quad a b d f))∧R a X∧R b Y∧R d Z∧R f T∧Below W.heap.size W w'
def RetCo (R:Array Value→Nat→Prop) (W:World) (p:PtD) (e:Ending) (w':World):Prop:=∃ a b d f X Y Z T,e=.returned (.agg (quad a b d f))∧R a X∧R b Y∧R d Z∧R f T∧Co X Y Z T p∧Below W.heap.size W w'
def ptRof (R:Array Value→Nat→Prop) (c:Array Value) (p:PtD):Prop:=∃ a b d f X Y Z T,c=quad a b d f∧R a X∧R b Y∧R d Z∧R f T∧Pq X Y Z T p
theorem FeC.pow {R:Array Value→Nat→Prop} (C:FeC R):FePC R where
 base:=C.base
 from_:=C.from_
 small:=C.small
 mul:=C.mul
 square:=C.square
 neg:=C.neg
 equal:=C.equal
 odd:=C.odd
def flatC (ms:List (Array Value)):Array Value:=ms.foldr (fun a b=>a++b) #[]
theorem flatC_cons (a:Array Value) (ms:List (Array Value)):flatC (a :: ms)=a++flatC ms:=rfl
theorem flatC_append (xs ys:List (Array Value)):flatC (xs++ys)=flatC xs++flatC ys:=by
 induction xs with
 | nil=>simp [flatC]
 | cons a xs ih=>rw [List.cons_append,flatC_cons,flatC_cons,ih,Array.append_assoc]
theorem flatC_size {s:Nat}:∀ (ms:List (Array Value)),(∀ m ∈ ms,m.size=s)→(flatC ms).size=s*ms.length
 | [],_=>by simp [flatC]
 | a :: ms,h=>by
  rw [flatC_cons,Array.size_append,h a (by simp),flatC_size ms (fun m hm=>h m (by simp [hm])),List.length_cons,Nat.mul_add,Nat.mul_one,Nat.add_comm]
theorem flatC_one:∀ (ms:List (Array Value)),(∀ m ∈ ms,m.all (·.oneCell')=true)→(flatC ms).all (·.oneCell')=true
 | [],_=>by simp [flatC]
 | a :: ms,h=>by
  rw [flatC_cons,Array.all_append,h a (by simp),flatC_one ms (fun m hm=>h m (by simp [hm]))];rfl
theorem flatC_split (ms:List (Array Value)) (i:Nat) (hi:i<ms.length):flatC ms=flatC (ms.take i)++ms[i]++flatC (ms.drop (i+1)):=by
 rw [Array.append_assoc,← flatC_cons,← List.drop_eq_getElem_cons hi,← flatC_append,List.take_append_drop]
theorem flatC_get {s:Nat} {ms:List (Array Value)} (h:∀ m ∈ ms,m.size=s) (pre:Array Value) {k:Nat} (i:Nat) (hi:i<ms.length) (hk:pre.size+s*i=k) (j:Nat) (hj:j<s):(pre++flatC ms)[k+j]?=ms[i][j]?:=by
 have e1:(flatC (ms.take i)).size=s*i:=by rw [flatC_size (ms.take i) (fun m hm=>h m (List.mem_of_mem_take hm)),List.length_take,Nat.min_eq_left (by omega)]
 have e2:ms[i].size=s:=h _ (List.getElem_mem hi)
 rw [flatC_split ms i hi,← Array.append_assoc,← Array.append_assoc,Array.getElem?_append_left (by simp;omega),Array.getElem?_append_right (by simp;omega)]
 congr 1
 simp
 omega
theorem flatC_lay {s:Nat} {ms:List (Array Value)} (h:∀ m ∈ ms,m.size=s) (pre v:Array Value) {k:Nat} (i:Nat) (hi:i<ms.length) (hk:pre.size+s*i=k) (hv:v.size=s) :
  v.zipIdx.foldl (fun cs (p:Value × Nat)=>cs.setIfInBounds (k+p.2) p.1) (pre++flatC ms)=pre++flatC (ms.set i v):=by
 have e1:(flatC (ms.take i)).size=s*i:=by rw [flatC_size (ms.take i) (fun m hm=>h m (List.mem_of_mem_take hm)),List.length_take,Nat.min_eq_left (by omega)]
 have e2:ms[i].size=s:=h _ (List.getElem_mem hi)
 have e3:flatC (ms.set i v)=flatC (ms.take i)++v++flatC (ms.drop (i+1)):=by
  rw [flatC_split (ms.set i v) i (by simpa using hi)]
  simp [List.take_set,List.drop_set,List.set_eq_of_length_le (show (List.take i ms).length≤i by simp;omega)]
 have:=lay_mid (x:=pre++flatC (ms.take i)) (y:=ms[i]) (z:=flatC (ms.drop (i+1))) (v:=v) (off:=k) (by simp;omega) (by omega)
 rw [flatC_split ms i hi,e3,← Array.append_assoc,← Array.append_assoc,this]
 simp [Array.append_assoc]
theorem setRow_self (w:World) (g:Nat) (cur:Array Value) (t:TypeId) (fr:Nat × Nat) (hg:w.heap[g]?=some (.cells cur t fr)):w.setRow g cur=w:=by
 have hlt:g<w.heap.size:=(Array.getElem?_eq_some_iff.1 hg).1
 have hv:w.heap[g]=.cells cur t fr:=(Array.getElem?_eq_some_iff.1 hg).2
 unfold World.setRow
 cases w with
 | mk heap tape drawn os output =>
  congr 1
  apply Array.ext
  ·simp
  ·intro k h1 h2
   simp only [Array.getElem_modify]
   split
   ·rename_i hk;subst hk;simp at hv;simp [hv]
   ·rfl
theorem setCells_part (g k:Nat) (t:TypeId) (fr:Nat × Nat):∀ (vs:List Value) (n:Nat) (cur:Array Value) (w:World),w.heap[g]?=some (.cells cur t fr) →
  w.setCells g (k+n) vs=w.setRow g ((vs.zipIdx n).foldl (fun cs (p:Value × Nat)=>cs.setIfInBounds (k+p.2) p.1) cur)
 | [],n,cur,w,hg=>(setRow_self w g cur t fr hg).symm
 | v :: vs,n,cur,w,hg=>by
  rw [World.setCells,setCell_eq_setRow w g (k+n) cur t fr v hg,List.zipIdx_cons,List.foldl_cons,Nat.add_assoc,setCells_part g k t fr vs (n+1) _ _ (setRow_heap w g cur _ t fr hg),setRow_setRow]
theorem run_storeVar_part {P:Program} (w:World) (g k:Nat) (t ty:TypeId) (old v new:Array Value) (hg:w.heap[g]?=some (.cells old t (0,0))) (hi:(P.info? ty).map (·.size)=some v.size)
  (ho:k+v.size≤old.size) (h1:v.all (·.oneCell')=true) (hn:v.zipIdx.foldl (fun cs (p:Value × Nat)=>cs.setIfInBounds (k+p.2) p.1) old=new) :
  (storeVar ty ⟨g,k,none⟩ (.agg v)).run P w=.ok () (w.setRow g new):=by
 have h:=run_storeCells_cells (P:=P) g k v.toList 0 w (fun j hj=>by
   rw [cell_of_row w g (k+0+j) old t (0,0) hg]
   rw [Array.length_toList] at hj
   rw [Array.getElem?_eq_getElem (by omega)];rfl) (fun j hj=>by simp [World.frozen?,hg]) (fun x hx=>(Array.all_eq_true_iff_forall_mem.1 h1) x (by simpa using hx))
 rw [setCells_part g k t (0,0) v.toList 0 old w hg] at h
 rw [← Array.toList_zipIdx,Array.foldl_toList,hn] at h
 cases hq:P.info? ty with
 | none=>simp [hq] at hi
 | some i =>
  have hs:v.size=i.size:=by simp [hq] at hi;omega
  simp [storeVar,sizeOf,typeInfo,hq,Value.cells,hs,h]
theorem wp_store_part {P:Program} {o:Oper} {a:Act} {w:World} {K:Act→World→Prop} {Q:Exit→Act→World→Prop} (ty:TypeId) (x y:Operand) (ho:o.op=.store ty x y)
  (g k:Nat) (v new:Array Value) (hx:a.eval x=.pointer (some ⟨g,k,none⟩)) (hy:a.eval y=.agg v)
  (t:TypeId) (old:Array Value) (hg:w.heap[g]?=some (.cells old t (0,0))) (hi:(P.info? ty).map (·.size)=some v.size)
  (hold:k+v.size≤old.size) (h1:v.all (·.oneCell')=true) (hn:v.zipIdx.foldl (fun cs (p:Value × Nat)=>cs.setIfInBounds (k+p.2) p.1) old=new)
  (h:K (a.put o.dst undef) (w.setRow g new)):o.wp P a w K Q:=by
 unfold Oper.wp execOp
 simp only [ho,hx,hy,Instr.storeAt,Instr.sureAddr,Sem.run_bind,Sem.run_pure,Result.andThen_ok,run_storeVar_part w g k t ty old v new hg hi hold h1 hn]
 exact h
theorem wpList_store_part {P:Program} {ops:Array Oper} {rest:List Oper} {o:Oper} {a:Act} {w:World} {Q:Exit→Act→World→Prop} (hgd:o.guard=none) (ty:TypeId) (x y:Operand) (ho:o.op=.store ty x y)
  (g k:Nat) (v new:Array Value) (hx:a.eval x=.pointer (some ⟨g,k,none⟩)) (hy:a.eval y=.agg v)
  (t:TypeId) (old:Array Value) (hg:w.heap[g]?=some (.cells old t (0,0))) (hi:(P.info? ty).map (·.size)=some v.size)
  (hold:k+v.size≤old.size) (h1:v.all (·.oneCell')=true) (hn:v.zipIdx.foldl (fun cs (p:Value × Nat)=>cs.setIfInBounds (k+p.2) p.1) old=new)
  (h:wpList P ops Q rest (a.put o.dst undef) (w.setRow g new)):wpList P ops Q (o :: rest) a w :=
 wpList_plain hgd fun _ hK=>wp_store_part ty x y ho g k v new hx hy t old hg hi hold h1 hn (hK _ _ h)
def sumP (f:Nat→Nat):List (Nat × PtD)→PtD
 | []=>pzero
 | q :: L=>padd (pmul (f q.1) q.2) (sumP f L)
theorem sumP_append (f:Nat→Nat):∀ L M,sumP f (L++M)=padd (sumP f L) (sumP f M)
 | [],M=>(pz_add _).symm
 | q :: L,M=>by rw [List.cons_append,sumP,sumP,sumP_append f L M,padd_assoc]
theorem sumP_take (f:Nat→Nat) (L:List (Nat × PtD)) (m:Nat) (hm:m<L.length):padd (sumP f (L.take m)) (pmul (f L[m].1) L[m].2)=sumP f (L.take (m+1)):=by
 rw [List.take_succ_eq_append_getElem hm,sumP_append,sumP,sumP,padd_z]
theorem padd_swap (a b c d:PtD):padd (padd a b) (padd c d)=padd (padd a c) (padd b d):=by
 rw [padd_assoc,padd_assoc,← padd_assoc b c d,padd_comm b c,padd_assoc c b d]
theorem sumP_step (f g h:Nat→Nat) (e:∀ n,h n=f n*16+g n):∀ L,padd (pmul 16 (sumP f L)) (sumP g L)=sumP h L
 | []=>by
  rw [sumP,sumP,sumP,padd_z,← pmul_zero pzero,pmul_mul,Nat.zero_mul]
 | q :: L=>by
  rw [sumP,sumP,sumP,← sumP_step f g h e L,pmul_padd,pmul_mul,padd_swap,pmul_add,e]
def hiP (k:Nat) (L:List (Nat × PtD)):PtD:=sumP (fun n=>n/16^(64-k)) L
def dgP (i n:Nat):Nat:=n/16^i % 16
theorem hiP_step {k:Nat} (hk:k<64) (L:List (Nat × PtD)):padd (pmul 16 (hiP k L)) (sumP (dgP (63-k)) L)=hiP (k+1) L:=by
 apply sumP_step
 intro n
 unfold dgP
 have e:n/16^(64-k)=n/16^(63-k)/16:=by
  rw [Nat.div_div_eq_div_mul,← Nat.pow_succ,show (63-k).succ=64-k by omega]
 rw [show 64-(k+1)=63-k by omega]
 show n/16^(63-k)=n/16^(64-k)*16+n/16^(63-k) % 16
 rw [e]
 omega
theorem hiP_zero {L:List (Nat × PtD)} (h:∀ q ∈ L,q.1<256^32):hiP 0 L=pzero:=by
 unfold hiP
 induction L with
 | nil=>rfl
 | cons q L ih =>
  rw [sumP,ih (fun p hp=>h p (by simp [hp])),padd_z]
  have:=h q (by simp)
  rw [show q.1/16^(64-0)=0 from Nat.div_eq_of_lt (by rw [show (16:Nat)^(64-0)=256^32 by decide];exact this),pmul_zero]
theorem hiP_end (L:List (Nat × PtD)):hiP 64 L=sumP (fun n=>n) L:=by
 unfold hiP
 congr 1
 funext n
 rw [show (16:Nat)^(64-64)=1 by decide,Nat.div_one]
theorem dgP_byte (l:List UInt8) (i:Nat):(l.getD (i/2) 0).toNat/2^(i % 2*4) % 16=dgP i (leN l):=by
 rw [← leN_byte l (i/2)]
 unfold dgP
 generalize leN l=n
 rw [show (256:Nat)^(i/2)=16^(2*(i/2)) by rw [Nat.pow_mul]]
 rcases Nat.mod_two_eq_zero_or_one i with e | e
 ·rw [e,show 2*(i/2)=i by omega]
  generalize n/16^i=y
  omega
 ·have e2:16^i=16^(2*(i/2))*16:=by rw [← Nat.pow_succ];congr 1;omega
  rw [e,e2,← Nat.div_div_eq_div_mul]
  generalize n/16^(2*(i/2))=y
  omega
theorem dblP_pmul:∀ k p,dblP k p=pmul (2^k) p
 | 0,p=>(pmul_one p).symm
 | k+1,p=>by rw [dblP,dblP_pmul k p,pmul_dbl,Nat.pow_succ,Nat.mul_comm]
abbrev MuMultC (R:Array Value→PtD→Prop):Prop:=∀ (l:List UInt8),l.length=32→∀ {c p},R c p→∀ W:World,Calls Tryz.prog 108 #[.agg (arrB l),.agg c] W (RetPt R W (pmul (leN l) p))
abbrev MuBaseC (R:Array Value→PtD→Prop):Prop:=∀ (l:List UInt8),l.length=32→∀ W:World,Calls Tryz.prog 51 #[.agg (arrB l)] W (RetPt R W (pmul (leN l) F25519.base))
abbrev MuTwoC (R:Array Value→PtD→Prop):Prop:=∀ (l m:List UInt8),l.length=32→m.length=32→∀ {c p},R c p→∀ W:World,Calls Tryz.prog 37 #[.agg (arrB l),.agg c,.agg (arrB m)] W (RetPt R W (padd (pmul (leN l) p) (pmul (leN m) F25519.base)))
structure MuC (R:Array Value→PtD→Prop):Prop where
 mult:MuMultC R
 base:MuBaseC R
 two:MuTwoC R
theorem pt20_info:(Tryz.prog.info? 65).map (·.size)=some 20:=by kernel_rfl
theorem pt20 {R:Array Value→PtD→Prop} (C:PtB R) {c:Array Value} {p:PtD} (h:R c p):c.size=20:=by
 have k:=C.info h
 rw [pt20_info] at k
 injection k with k
 exact k.symm
abbrev z20:Array Value:=quad z5 z5 z5 z5
theorem z20_size:z20.size=20:=rfl
structure Mup (R:Array Value→PtD→Prop) (p:PtD) (k:Nat) (ms:List (Array Value)):Prop where
 len:ms.length=16
 is:∀ (i:Nat) (h:i<ms.length),R ms[i] (if i≤k then pmul i p else pzero)
theorem Mup.size {R:Array Value→PtD→Prop} {p:PtD} {k:Nat} {ms:List (Array Value)} (C:PtB R) (h:Mup R p k ms):∀ m ∈ ms,m.size=20:=by
 intro m hm
 obtain ⟨i,hi,rfl⟩:=List.getElem_of_mem hm
 exact pt20 C (h.is i hi)
theorem Mup.one {R:Array Value→PtD→Prop} {p:PtD} {k:Nat} {ms:List (Array Value)} (C:PtB R) (h:Mup R p k ms):∀ m ∈ ms,m.all (·.oneCell')=true:=by
 intro m hm
 obtain ⟨i,hi,rfl⟩:=List.getElem_of_mem hm
 exact C.one (h.is i hi)
theorem Mup.zero {R:Array Value→PtD→Prop} (hz:R z20 pzero) (p:PtD):Mup R p 0 (List.replicate 16 z20):=by
 refine ⟨by simp,fun i h=>?_⟩
 rw [List.getElem_replicate]
 by_cases h0:i≤0
 ·rw [if_pos h0,show i=0 by omega,pmul_zero];exact hz
 ·rw [if_neg h0];exact hz
theorem Mup.set {R:Array Value→PtD→Prop} {p:PtD} {k:Nat} {ms:List (Array Value)} (h:Mup R p k ms) {v:Array Value} (hv:R v (pmul (k+1) p)):Mup R p (k+1) (ms.set (k+1) v):=by
 refine ⟨by rw [List.length_set,h.len],fun i hi=>?_⟩
 rw [List.getElem_set]
 by_cases e:k+1=i
 ·subst e
  rw [if_pos rfl,if_pos (by omega)];exact hv
 ·rw [if_neg e]
  have:=h.is i (by simpa using hi)
  by_cases h0:i≤k
  ·rw [if_pos h0] at this;rw [if_pos (by omega)];exact this
  ·rw [if_neg h0] at this;rw [if_neg (by omega)];exact this
def prC (l:List UInt8) (ms:List (Array Value)):Array Value:=arrB l++flatC ms
theorem prC_size {l:List UInt8} {ms:List (Array Value)} (hl:l.length=32) (h:∀ m ∈ ms,m.size=20) (hn:ms.length=16):(prC l ms).size=352:=by
 unfold prC
 rw [Array.size_append,flatC_size ms h,hn,zam,hl]
theorem prod_info:(Tryz.prog.info? 124).map (·.size)=some 352:=by kernel_rfl
def RetAgg (W:World) (c:Array Value) (e:Ending) (w':World):Prop:=e=.returned (.agg c)∧Below W.heap.size W w'
theorem still_runs {P:Program} {o:Oper} {a:Act} {w:World} {K:Act→Prop} {v:Value} (hr:(execOp (Act.eval a) o).run P w=.ok (.value v) w) (h:K (a.put o.dst v)):o.still P a w K:=by
 unfold Oper.still
 rw [hr,Oper.stillUpon_value]
 exact h
theorem mpart_any {W:World} {g o:Nat} {cs:Array Value} {t:TypeId} {fr:Nat × Nat} (hg:W.heap[g]?=some (.cells cs t fr)) {l:List UInt8} (hl:l.length=32) {ms:List (Array Value)} (hn:ms.length=16)
  (hb:∀ j,j<32→cs[o+j]?=some (.int .u8 ((l.getD j 0).toNat:Int))) (hm:∀ d (hd:d<ms.length) j,j<20→cs[o+32+d*20+j]?=ms[d][j]?) (hs:∀ m ∈ ms,m.size=20) (h1:∀ m ∈ ms,m.all (·.oneCell')=true) {i:Nat} (hi:i<64) :
  Calls Tryz.prog 132 #[.pointer (some ⟨g,o,none⟩),.int .i64 (i:Int)] W (RetAgg W (ms.getD (dgP i (leN l)) #[])):=by
 obtain ⟨d,hd⟩:∃ d,dgP i (leN l)=d:=⟨_,rfl⟩
 have hd16:d<16:=by rw [← hd];exact Nat.mod_lt _ (by omega)
 have hdb:=dgP_byte l i
 rw [hd] at hdb
 have hdl:d<ms.length:=by omega
 obtain ⟨b,hbv⟩:∃ b,(l.getD (i/2) 0).toNat=b:=⟨_,rfl⟩
 have hbl:b<256:=by rw [← hbv];exact (l.getD _ 0).toNat_lt
 have cb:=hb (i/2) (by omega)
 rw [hbv] at cb hdb
 have ec:ms.getD d #[]=ms[d]:=by simp [List.getD,hdl]
 have hcs:=hm d hdl
 have hv20:=hs _ (List.getElem_mem hdl)
 have hv1:=h1 _ (List.getElem_mem hdl)
 rw [hd,ec]
 generalize ms[d]=v at *
 obtain ⟨q,hq⟩:∃ q,i/2=q:=⟨_,rfl⟩
 obtain ⟨r,hr⟩:∃ r,i % 2=r:=⟨_,rfl⟩
 obtain ⟨e,he⟩:∃ e,r*4=e:=⟨_,rfl⟩
 rw [hq] at cb
 rw [hr,he] at hdb
 have hz20:∀ u,(zeroValue 65).run Tryz.prog u=.ok (.agg z20) u:=zp_zero
 obtain ⟨Z,hZ⟩:∃ Z,z20=Z:=⟨_,rfl⟩
 have hZs:Z.size=v.size:=by rw [← hZ,hv20];rfl
 rw [hZ] at hz20
 have hglt:g<W.heap.size:=(Array.getElem?_eq_some_iff.1 hg).1
 have hg1:(W.alloc (.cells Z 65)).heap[g]?=some (.cells cs t fr):=by
  have:=(Below.refl W.heap.size W).alloc (Nat.le_refl _) (.cells Z 65)
  rw [this.block g hglt];exact hg
 have hZr:(W.alloc (.cells Z 65)).heap[W.heap.size]?=some (.cells Z 65 (0,0)):=heap_alloc_new _ _
 have cx:(W.alloc (.cells Z 65)).cell? ⟨g,o+q,none⟩=some (.int .u8 (b:Int)):=by rw [cell_of_row _ _ _ _ _ _ hg1,cb]
 have f1:(i:Int).tdiv 2=(q:Int):=by rw [Int.tdiv_eq_ediv_of_nonneg (by omega)];omega
 have f1':(i:Int)/2=(q:Int):=by omega
 have f2:IntKind.i64.wrap (q:Int)=(q:Int):=by rw [IntKind.wrap_i64];omega
 have f3:(i:Int).tmod 2=(r:Int):=by rw [Int.tmod_eq_emod_of_nonneg (by omega)];omega
 have f3':(i:Int) % 2=(r:Int):=by omega
 have f4:(r:Int)*4=(e:Int):=by omega
 have f5:IntKind.i64.wrap (e:Int)=(e:Int):=by rw [IntKind.wrap_i64];omega
 have f5':IntKind.i64.wrap (r:Int)=(r:Int):=by rw [IntKind.wrap_i64];omega
 obtain ⟨s,hs⟩:∃ s,b/2^e=s:=⟨_,rfl⟩
 rw [hs] at hdb
 have hsl:s<256:=by rw [← hs];exact Nat.lt_of_le_of_lt (Nat.div_le_self _ _) hbl
 have f6:(b:Int)/2^e=(s:Int):=by rw [← hs,Int.natCast_ediv];simp
 have f7:bits .and .u8 (s:Int) 15=(d:Int):=by
  have h:=u8_and' (UInt8.ofNat s) 15
  have e1:(UInt8.ofNat s).toNat=s:=by simp;omega
  rw [show ((15:UInt8).toNat:Int)=15 from rfl,e1] at h
  rw [h,UInt8.toNat_and,show (15:UInt8).toNat=2^4-1 from rfl,Nat.and_two_pow_sub_one_eq_mod,e1]
  omega
 have b1:0≤(q:Int):=by omega
 have b2:(q:Int)<32:=by omega
 have b3:0≤(e:Int):=by omega
 have b4:0≤(d:Int):=by omega
 have b5:(d:Int)<16:=by omega
 have HCS:=yh hcs
 have HV20:=yh hv20
 have HV1:=yh hv1
 have HZS:=yh hZs
 have HG1:=yh hg1
 have HZR:=yh hZr
 have HB:Hid (Below W.heap.size W ((W.alloc (.cells Z 65)).setRow W.heap.size v)):=yh (zau (Below.refl _ _) _ _ _)
 clear hb hm hs h1 hsl hdb hd hbv cb hcs hv20 hv1 hq hr he hZ hZs hg hg1 hZr hn hdl hi hl ec
 go_enter Tryz.func132,Tryz.ntmps132
 go_wp2_with fail
 obtain ⟨W1,hW1⟩:∃ X,W.alloc (.cells Z 65)=X:=⟨_,rfl⟩
 rw [hW1] at cx HG1 HZR HB
 rw [hW1]
 clear hW1
 refine wp_region_still_tail 17 (by kernel_rfl) (by kernel_rfl) ?_
 simp only [List.take_succ_cons,List.take_zero,List.drop_succ_cons,List.drop_zero]
 iterate 16 still_step
 refine wpStill_step (fun K hK=>?_)
 refine (if_pos (by kernel_rfl)).mpr ?_
 refine still_runs (zal rfl rfl HG1.out Tryz.underlying65 rfl (by rw [HV20.out];exact pt20_info) (fun j hj=>HCS.out j (by rw [HV20.out] at hj;exact hj))) ?_
 refine hK _ ?_
 clear hK K
 refine wpStill_nil ?_
 go_wp2_with (refine yj v HZR.out (by rw [HV20.out];exact pt20_info) HZS.out HV1.out ?_)
 have hf:(W1.drew.setRow W.heap.size v).heap[W.heap.size]?=some (.cells v 65 (0,0)):=setRow_heap _ _ _ _ _ _ HZR.out
 refine bodyPost_ret (results_cell_row rfl _ _ W.heap.size _ v _ _ rfl hf Tryz.underlying65 rfl (by rw [HV20.out];exact pt20_info)) rfl ?_
 exact ⟨rfl,HB.out.drew⟩
def placeR:Array (Nat × Nat):=#[(0,32),(32,320)]
theorem pr_under:∃ f:Array Field,Tryz.prog.underlying 124=some (.struct f)∧∀ w:World,(f.mapM fun x=>(do pure (x.offset,← sizeOf x.type):Sem (Nat × Nat))).run Tryz.prog w=.ok placeR w :=
 ⟨_,Tryz.underlying124,fun w=>by kernel_rfl⟩
def zProd:Array Value:=prC (List.replicate 32 0) (List.replicate 16 z20)
def zList:List Value:=List.replicate 32 (.int .u8 0)++List.replicate 320 (.int .u64 0)
theorem zList_zero (u:World):(zeroValue 124).run Tryz.prog u=.ok (.agg zList.toArray) u:=by kernel_rfl
theorem flatC_list:∀ ms:List (Array Value),(flatC ms).toList=(ms.map (·.toList)).flatten
 | []=>rfl
 | a :: ms=>by rw [flatC_cons,Array.toList_append,flatC_list ms];rfl
theorem zList_is:zList.toArray=zProd:=by
 apply Array.toList_inj.1
 unfold zProd prC
 rw [Array.toList_append,flatC_list,List.map_replicate]
 have e1:(arrB (List.replicate 32 0)).toList=List.replicate 32 (.int .u8 0):=by simp [arrB,bval]
 have e2:z20.toList=List.replicate 20 (.int .u64 0):=by rfl
 rw [e1,e2]
 rfl
theorem zProd_zero (u:World):(zeroValue 124).run Tryz.prog u=.ok (.agg zProd) u:=by rw [← zList_is];exact zList_zero u
theorem z20_one:z20.all (·.oneCell')=true:=by kernel_rfl
theorem z20s_size:∀ m ∈ List.replicate 16 z20,m.size=20:=fun m hm=>by rw [List.eq_of_mem_replicate hm];exact z20_size
theorem zProd_size:zProd.size=352:=prC_size (by simp) z20s_size (by simp)
theorem run_buildR {ρ:Operand→Value} {o:Oper} {w:World} {x0:Operand} {l:List UInt8} (hl:l.length=32) (ho:o.op=.build 124 #[(0,x0)]) (h0:ρ x0=.agg (arrB l)) :
  (execOp ρ o).run Tryz.prog w=.ok (.value (.agg (prC l (List.replicate 16 z20)))) w:=by
 obtain ⟨f,hu,hp⟩:=pr_under
 have sa:(arrB l).size=32:=by rw [zam,hl]
 have hf:Instr.fill (fun i=>placeR[i]?) zProd [(0,Value.agg (arrB l))]=some (prC l (List.replicate 16 z20)):=by
  have h:=lay_mid (x:=#[]) (y:=arrB (List.replicate 32 0)) (z:=flatC (List.replicate 16 z20)) (v:=arrB l) (off:=0) rfl (by rw [sa,zam];simp)
  rw [fill_part (off:=0) (cs':=prC l (List.replicate 16 z20)) (by rw [sa];rfl) (by rw [sa];show 0+32≤zProd.size;rw [zProd_size];omega) (by rw [Array.empty_append,Array.empty_append] at h;exact h)]
  rfl
 have hb:(Instr.build 124 #[(0,.agg (arrB l))]).run Tryz.prog w=.ok (.agg (prC l (List.replicate 16 z20))) w:=by
  unfold Instr.build
  rw [Sem.run_bind,zProd_zero w,Result.andThen_ok]
  simp only [Sem.run_bind,run_underlying hu w,Result.andThen_ok]
  rw [hp w]
  simp only [Result.andThen_ok,Value.cells]
  have h':Instr.fill (fun x=>placeR[x]?) zProd [(0,Value.agg (arrB l))]=some (prC l (List.replicate 16 z20)):=hf
  rw [h']
  rfl
 unfold execOp
 simp only [ho,List.map_toArray,List.map_cons,List.map_nil,h0,Sem.run_bind,hb,Result.andThen_ok,Sem.run_pure]
def RetPr (R:Array Value→PtD→Prop) (W:World) (l:List UInt8) (p:PtD) (e:Ending) (w':World):Prop:=∃ ms,e=.returned (.agg (prC l ms))∧Mup R p 15 ms∧Below W.heap.size W w'
theorem prC_info {l:List UInt8} {ms:List (Array Value)} (hl:l.length=32) (h:∀ m ∈ ms,m.size=20) (hn:ms.length=16):(Tryz.prog.info? 124).map (·.size)=some (prC l ms).size:=by
 rw [prC_size hl h hn];exact prod_info
theorem prC_one {l:List UInt8} {ms:List (Array Value)} (h:∀ m ∈ ms,m.all (·.oneCell')=true):(prC l ms).all (·.oneCell')=true:=by
 unfold prC
 rw [Array.all_append,zap,flatC_one ms h];rfl
theorem mtimes_any {R:Array Value→PtD→Prop} (C:PtM R) (hz:R z20 pzero) {l:List UInt8} (hl:l.length=32) {c:Array Value} {p:PtD} (hc:R c p) (w:World) :
  Calls Tryz.prog 90 #[.agg (arrB l),.agg c] w (RetPr R w l p):=by
 have HL:=yh hl
 have HC:=yh hc
 have HP0:=yh (Mup.zero hz p)
 have hZP:=zProd_zero
 have hZi:=prC_info (ms:=List.replicate 16 z20) hl z20s_size (by simp)
 have hZs:zProd.size=(prC l (List.replicate 16 z20)).size:=by rw [prC_size hl z20s_size (by simp)];exact zProd_size
 have hZq:=zProd_size
 have hZo:=prC_one (l:=l) (ms:=List.replicate 16 z20) (fun m hm=>by rw [List.eq_of_mem_replicate hm];exact z20_one)
 have hBR:=fun (ρ:Operand→Value) (o:Oper) (w:World) (x0:Operand)=>run_buildR (ρ:=ρ) (o:=o) (w:=w) (x0:=x0) hl
 have hBB:(Tryz.prog.info? 22).map (·.size)=some (arrB l).size:=by rw [zam,hl];kernel_rfl
 generalize zProd=ZP at *
 obtain ⟨ms0,hms0⟩:∃ m,List.replicate 16 z20=m:=⟨_,rfl⟩
 rw [hms0] at HP0 hZi hZs hZo hBR
 have HZI:=yh hZi
 have HZ0:=yh hZs
 have HZS:=yh hZq
 have HZO:=yh hZo
 have HBR:=yh hBR
 have HBB:=yh hBB
 clear hl hc hz hms0 hZi hZs hZq hZo hBR hBB
 have HR0:=yh ((((RowsW.nil w).box (arrB l) 22).box c 65).box ZP 124)
 have HB0:=yh (zae (zae (zae (Below.refl w.heap.size w) (arrB l) 22) c 65) ZP 124)
 rw [World.size_alloc] at HR0
 rw [World.size_alloc] at HR0
 go_enter Tryz.func90,Tryz.ntmps90
 go_upto_region 1 with fail
 obtain ⟨W0,hW0⟩:∃ W,(((w.alloc (.cells (arrB l) 22)).alloc (.cells c 65)).alloc (.cells ZP 124))=W:=⟨_,rfl⟩
 obtain ⟨g0,hg0⟩:∃ g,w.heap.size=g:=⟨_,rfl⟩
 rw [hW0] at HR0 HB0
 rw [hg0] at HR0
 rw [hW0,hg0]
 have HG0:=yh hg0
 clear hW0 hg0
 have l1:=HR0.out.tail.tail.head
 have h0q4:(W0.alloc (.cells ZP 124)).heap[W0.heap.size]?=some (.cells ZP 124 (0,0)):=heap_alloc_new _ _
 have HRq4:=yh (HR0.out.new ZP (prC l ms0) 124)
 have HBq4:=yh (zau HB0.out ZP (prC l ms0) 124)
 have HNq4:=yh HR0.out.ne
 have HGq4:=yh HB0.out.size
 go_upto_region 2 with (first
  | (refine yi l1 Tryz.underlying22 HBB.out ?_)
  | (refine zaj (o:=⟨some 8,_,_,_,_,_⟩) rfl (.agg (prC l ms0)) (HBR.out _ _ _ _ rfl rfl) ?_)
  | (refine yj (prC l ms0) h0q4 HZI.out HZ0.out HZO.out ?_))
 obtain ⟨Wq4,hWq4⟩:∃ W,(W0.alloc (.cells ZP 124)).setRow W0.heap.size (prC l ms0)=W:=⟨_,rfl⟩
 obtain ⟨gq,hgq⟩:∃ g,W0.heap.size=g:=⟨_,rfl⟩
 rw [hWq4,hgq] at HRq4
 rw [hWq4] at HBq4
 rw [hgq] at HNq4 HGq4
 rw [hWq4,hgq]
 clear hWq4 hgq h0q4 l1 HZI HZ0 HZO HBR HBB HR0 HB0
 go_wp2_with fail
 go_loopw [12] (fun i_ wr=>∃ k:Nat,k≤15∧i_=.int .i64 (k:Int)∧∃ ms,Hid (Mup R p k ms)∧Hid (RowsW wr [(gq,prC l ms,124),(g0+1+1,ZP,124),(g0+1,c,65),(g0,arrB l,22)])∧Hid (Below w.heap.size w wr)) (fun i_ _=>15-(intOf i_).toNat)
 case atStart=>exact ⟨0,by omega,rfl,ms0,HP0,HRq4,HBq4⟩
 case round =>
  clear HP0 HRq4 HBq4
  obtain ⟨k,hk,rfl,ms,HM,HR1,HB1⟩:=hrel
  by_cases hlt:k<15
  ·have hkl:k<ms.length:=by have:=HM.out.len;omega
   have hrv:=HM.out.is k hkl
   rw [if_pos (Nat.le_refl k)] at hrv
   have hsz:=HM.out.size C.base
   have hget:=flatC_get hsz (arrB l) (k:=32+k*20) k hkl (by rw [zam,HL.out,Nat.mul_comm])
   obtain ⟨k1,hk1⟩:∃ k1,k+1=k1:=⟨_,rfl⟩
   have hk1l:k1<ms.length:=by have:=HM.out.len;omega
   have hlay:=fun (v:Array Value) (hv:v.size=20)=>flatC_lay hsz (arrB l) v (k:=32+k1*20) k1 hk1l (by rw [zam,HL.out,Nat.mul_comm]) hv
   have HLAY:Hid (∀ v:Array Value,v.size=20→v.zipIdx.foldl (fun cs (p:Value × Nat)=>cs.setIfInBounds (32+k1*20+p.2) p.1) (prC l ms)=prC l (ms.set k1 v)):=yh hlay
   have HSET:Hid (∀ v,R v (pmul k1 p)→Mup R p k1 (ms.set k1 v)):=yh (fun v hv=>by subst hk1;exact HM.out.set hv)
   have HPS:Hid ((prC l ms).size=352):=yh (prC_size HL.out hsz HM.out.len)
   obtain ⟨mk,hmk⟩:∃ m,ms[k]=m:=⟨_,rfl⟩
   rw [hmk] at hrv hget
   have RV:=yh hrv
   have HV20:Hid (mk.size=20):=yh (pt20 C.base hrv)
   have HGT:Hid (∀ j,j<20→(prC l ms)[32+k*20+j]?=mk[j]?):=yh hget
   have HK1:Hid (k+1=k1):=yh hk1
   have a0:decide ((k:Int)<15)=true:=decide_eq_true (by omega)
   have a1:(k:Int)+1=(k1:Int):=by omega
   have a2:IntKind.i64.wrap (k1:Int)=(k1:Int):=by rw [IntKind.wrap_i64];omega
   have a3:0≤(k:Int):=by omega
   have a4:(k:Int)<16:=by omega
   have a5:0≤(k1:Int):=by omega
   have a6:(k1:Int)<16:=by omega
   have H16:Hid (k1≤15):=yh (by omega)
   clear hkl hsz hget hk1l hlay hmk hrv hk1 hk HM
   go_upto_region 5 with fail
   rename_i K5 hK5
   refine wp_region_noPanic ?_
   refine zah (S:=fun W=>Below wr.heap.size wr W) 9 (by kernel_rfl) ⟨by kernel_rfl,by kernel_rfl,by kernel_rfl,by kernel_rfl⟩ (by exact (Below.refl _ _).drew) (fun hT inv hS=>?_)
   refine' yT 0 hT inv hS (fun inv=>?_)
   refine' yT 1 hT inv hS (fun inv=>?_)
   refine' yT 2 hT inv hS (fun inv=>?_)
   refine' yT 3 hT inv hS (fun inv=>?_)
   refine' yT 4 hT inv hS (fun inv=>?_)
   refine' yT 5 hT inv hS (fun inv=>?_) (hy:=by intro W hSW;exact zal rfl rfl (HR1.out.below hSW).head Tryz.underlying65 rfl (C.base.info RV.out) (fun j hj=>HGT.out j (by rw [HV20.out] at hj;exact hj)))
   refine' yT 6 hT inv hS (fun inv=>?_) (hy:=fun W hSW=>zad rfl rfl (HR1.out.below hSW).tail.tail.head Tryz.underlying65 rfl (C.base.info HC.out))
   refine' yT 8 hT inv hS (fun inv=>?_)
   refine xT 7 inv (fun K hK=>?_)
   go_simp
   with_reducible refine ((C.add RV.out HC.out) _).mono ?_
   rintro e v ⟨cv,rfl,rv,hv⟩
   rw [← pmul_succ,HK1.out] at rv
   have RN:=yh rv
   clear rv
   have hbv:=zaa hS hv
   clear hS hv
   refine hK.out _ _ (by exact hbv) (fun inv hS=>?_)
   clear hK K
   refine zaD (by kernel_rfl) ?_
   simp only [List.drop_succ_cons,List.drop_zero]
   have hrq:=HR1.out.below hbv
   have hst:=hrq.head
   have hcv:=pt20 C.base RN.out
   have HR2:=yh (hrq.put (fun r hr=>HNq4.out r hr) (prC l (ms.set k1 cv)))
   have HB2:Hid (Below w.heap.size w (v.setRow gq (prC l (ms.set k1 cv)))):=yh (zac (below_then HB1.out hbv) HGq4.out)
   go_wp2_with (refine wpList_store_part rfl 65 (.tmp 24) (.tmp 22) rfl gq (32+k1*20) cv (prC l (ms.set k1 cv)) rfl rfl 124 (prC l ms) hst (C.base.info RN.out) (by rw [HPS.out,hcv];have:=H16.out;omega) (C.base.one RN.out) (HLAY.out cv hcv) ?_)
   refine hK5 _ _ ?_
   go_wp2_with fail
   go_roundw
   case rel=>exact ⟨k1,H16.out,by go_num,_,yh (HSET.out cv RN.out),HR2,HB2⟩
   case measure=>simp [intOf];omega
  ·have a0:decide ((k:Int)<15)=false:=decide_eq_false (by omega)
   have hk15:k=15:=by omega
   have HM2:Hid (Mup R p 15 ms):=yh (by rw [← hk15];exact HM.out)
   have hsz:=HM.out.size C.base
   have hpi:=prC_info HL.out hsz HM.out.len
   have hpo:=prC_one (l:=l) (HM.out.one C.base)
   have hps:=prC_size HL.out hsz HM.out.len
   have hr0:=HR1.out.head
   have hr1:=HR1.out.tail.head
   have hf:(wr.setRow (g0+1+1) (prC l ms)).heap[g0+1+1]?=some (.cells (prC l ms) 124 (0,0)):=setRow_heap _ _ _ _ _ _ hr1
   have HB2:Hid (Below w.heap.size w (wr.setRow (g0+1+1) (prC l ms))):=yh (zac HB1.out (by have:=HG0.out;omega))
   have HF:=yh hf
   have HPI:=yh hpi
   clear HM hk15 hk hlt hsz hf
   go_wp2_with (first
    | (refine yi hr0 Tryz.underlying124 hpi ?_)
    | (refine yj (prC l ms) hr1 hpi (by rw [hps];exact HZS.out) hpo ?_))
   (try simp only [Exit.inBlock,Exit.then])
   refine bodyPost_ret (results_cell_row rfl _ _ (g0+1+1) _ (prC l ms) _ _ rfl HF.out Tryz.underlying124 rfl HPI.out) rfl ?_
   exact ⟨ms,rfl,HM2.out,HB2.out⟩
abbrev PrT:=List UInt8 × List (Array Value) × PtD
def cellP (q:PrT):Array Value:=prC q.1 q.2.1
def numP (q:PrT):Nat × PtD:=(leN q.1,q.2.2)
def PrL (R:Array Value→PtD→Prop) (L:List PrT):Prop:=∀ q ∈ L,q.1.length=32∧Mup R q.2.2 15 q.2.1
theorem PrL.sizes {R:Array Value→PtD→Prop} {L:List PrT} (C:PtB R) (h:PrL R L):∀ m ∈ L.map cellP,m.size=352:=by
 intro m hm
 obtain ⟨q,hq,rfl⟩:=List.mem_map.1 hm
 obtain ⟨h1,h2⟩:=h q hq
 exact prC_size h1 (h2.size C) h2.len
theorem PrL.lt {R:Array Value→PtD→Prop} {L:List PrT} (h:PrL R L):∀ q ∈ L.map numP,q.1<256^32:=by
 intro q hq
 obtain ⟨x,hx,rfl⟩:=List.mem_map.1 hq
 have:=leN_lt x.1
 rw [(h x hx).1] at this
 exact this
theorem mpart_row {R:Array Value→PtD→Prop} (C:PtB R) {L:List PrT} (hL:PrL R L) {W:World} {g:Nat} {t:TypeId} {fr:Nat × Nat} (hg:W.heap[g]?=some (.cells (flatC (L.map cellP)) t fr)) {k o:Nat} (hk:k<L.length) (ho:k*352=o) {i:Nat} (hi:i<64) :
  Calls Tryz.prog 132 #[.pointer (some ⟨g,o,none⟩),.int .i64 (i:Int)] W (RetPt R W (pmul (dgP i ((L.map numP).getD k (0,pzero)).1) ((L.map numP).getD k (0,pzero)).2)):=by
 obtain ⟨h1,h2⟩:=hL _ (List.getElem_mem hk)
 obtain ⟨⟨l,ms,p⟩,hq⟩:∃ q,L[k]=q:=⟨_,rfl⟩
 have hsz:=hL.sizes C
 have hk':k<(L.map cellP).length:=by simpa using hk
 have hcell:(L.map cellP)[k]=prC l ms:=by rw [List.getElem_map,hq];rfl
 have hnum:((L.map numP).getD k (0,pzero))=(leN l,p):=by
  have hl:k<(L.map numP).length:=by simpa using hk
  simp only [List.getD,List.getElem?_eq_getElem hl,Option.getD_some,List.getElem_map,hq];rfl
 rw [hq] at h1 h2
 have h1:l.length=32:=h1
 have h2:Mup R p 15 ms:=h2
 have h1:l.length=32:=h1
 have h2:Mup R p 15 ms:=h2
 have h2:Mup R p 15 ms:=h2
 have h1:l.length=32:=h1
 have h2:Mup R p 15 ms:=h2
 have h2:Mup R p 15 ms:=h2
 have h2:Mup R p 15 ms:=h2
 have h1:l.length=32:=h1
 have h2:Mup R p 15 ms:=h2
 have h2:Mup R p 15 ms:=h2
 have h2:Mup R p 15 ms:=h2
 have get:∀ j,j<352→(flatC (L.map cellP))[o+j]?=(prC l ms)[j]?:=by
  intro j hj
  have:=flatC_get hsz #[] (k:=o) k hk' (by simp;omega) j hj
  rwa [hcell,Array.empty_append] at this
 have hms:=h2.size C
 have hd:dgP i (leN l)<ms.length:=by rw [h2.len];exact Nat.mod_lt _ (by omega)
 have hr:=h2.is _ hd
 rw [if_pos (by have:=h2.len;omega)] at hr
 refine (mpart_any hg h1 h2.len (fun j hj=>?_) (fun d hd j hj=>?_) hms (h2.one C) hi).mono ?_
 ·rw [get j (by omega)]
  unfold prC
  rw [Array.getElem?_append_left (by rw [zam];omega),zaJ l j (by omega)]
 ·have h16:=h2.len
  rw [Nat.add_assoc,Nat.add_assoc,get _ (by omega)]
  unfold prC
  rw [← Nat.add_assoc]
  exact flatC_get hms (arrB l) d hd (by rw [zam,h1,Nat.mul_comm]) j hj
 ·rintro e w' ⟨rfl,hb⟩
  have e2:ms.getD (dgP i (leN l)) #[]=ms[dgP i (leN l)]:=by simp [List.getD,hd]
  rw [hnum,e2]
  exact ⟨_,rfl,hr,hb⟩
theorem msum_any {R:Array Value→PtD→Prop} (C:PtM R) (hz:R z20 pzero) {L:List PrT} (hL:PrL R L) {w:World} {gs n cap:Nat} {t:TypeId} {fr:Nat × Nat} (hg:w.heap[gs]?=some (.cells (flatC (L.map cellP)) t fr)) (hn:L.length=n) (hn9:n<1000) :
  Calls Tryz.prog 89 #[.slice (some ⟨gs,0,none⟩) n cap] w (RetPt R w (sumP (fun n=>n) (L.map numP))):=by
 have hgl:gs<w.heap.size:=(Array.getElem?_eq_some_iff.1 hg).1
 have hP0:=hiP_zero hL.lt
 have hPE:=hiP_end (L.map numP)
 rw [← hPE]
 have HPA:Hid (∀ (W:World) (k o i:Nat),Below w.heap.size w W→k<n→k*352=o→i<64→Calls Tryz.prog 132 #[.pointer (some ⟨gs,o,none⟩),.int .i64 (i:Int)] W (RetPt R W (pmul (dgP i ((L.map numP).getD k (0,pzero)).1) ((L.map numP).getD k (0,pzero)).2))):=yh fun W k o i hb hk ho hi =>
  mpart_row C.base hL (by rw [hb.block gs hgl];exact hg) (by omega) ho hi
 have HST:Hid (∀ k,k<64→padd (pmul 16 (hiP k (L.map numP))) (sumP (dgP (63-k)) ((L.map numP).take n))=hiP (k+1) (L.map numP)):=yh fun k hk=>by
  rw [List.take_of_length_le (by simp;omega)];exact hiP_step hk _
 have HTK:Hid (∀ i m,m<n→padd (sumP (dgP i) ((L.map numP).take m)) (pmul (dgP i ((L.map numP).getD m (0,pzero)).1) ((L.map numP).getD m (0,pzero)).2)=sumP (dgP i) ((L.map numP).take (m+1))):=yh fun i m hm=>by
  have hl:m<(L.map numP).length:=by simp;omega
  have e:(L.map numP).getD m (0,pzero)=(L.map numP)[m]:=by simp only [List.getD,List.getElem?_eq_getElem hl,Option.getD_some]
  rw [e]
  exact sumP_take (dgP i) (L.map numP) m hl
 have HNL:Hid (n<1000):=yh hn9
 have HP0:=yh hP0
 have HZ:=yh hz
 generalize L.map numP=M at *
 clear hL hg hn hgl hP0 hPE hz hn9 L
 have hz20:∀ u,(zeroValue 65).run Tryz.prog u=.ok (.agg z20) u:=zp_zero
 generalize z20=Z at *
 have HR0:=yh ((RowsW.nil w).box Z 65)
 have HB0:=yh (zae (Below.refl w.heap.size w) Z 65)
 go_enter Tryz.func89,Tryz.ntmps89
 go_upto_region 1 with fail
 obtain ⟨W0,hW0⟩:∃ W,w.alloc (.cells Z 65)=W:=⟨_,rfl⟩
 obtain ⟨g0,hg0⟩:∃ g,w.heap.size=g:=⟨_,rfl⟩
 rw [hW0] at HR0 HB0
 rw [hg0] at HR0
 rw [hW0]
 (try rw [hg0])
 have HG0:=yh hg0
 clear hW0 hg0
 go_wp2_with fail
 with_reducible refine (C.zero _).mono ?_
 rintro e v1 ⟨cz,rfl,rz,hb1⟩
 have RZ1:=yh rz
 have HR1:=yh (HR0.out.below hb1)
 have HB1:=yh (zaa HB0.out hb1)
 clear rz hb1 HR0 HB0
 have hzs:Z.size=20:=pt20 C.base HZ.out
 have hcs:cz.size=20:=pt20 C.base RZ1.out
 have h0q:(v1.alloc (.cells Z 65)).heap[v1.heap.size]?=some (.cells Z 65 (0,0)):=heap_alloc_new _ _
 have HR2:=yh (HR1.out.new Z cz 65)
 have HB2:=yh (zau HB1.out Z cz 65)
 have HN2:=yh HR1.out.ne
 have HG2:=yh HB1.out.size
 have RZ2:Hid (R cz (hiP 0 M)):=yh (by rw [HP0.out];exact RZ1.out)
 go_upto_region 2 with (refine yj cz h0q (C.base.info RZ1.out) (by rw [hzs,hcs]) (C.base.one RZ1.out) ?_)
 obtain ⟨W2,hW2⟩:∃ X,(v1.alloc (.cells Z 65)).setRow v1.heap.size cz=X:=⟨_,rfl⟩
 obtain ⟨gz,hgz⟩:∃ X,v1.heap.size=X:=⟨_,rfl⟩
 rw [hW2,hgz] at HR2
 rw [hW2] at HB2
 rw [hgz] at HN2 HG2
 rw [hW2,hgz]
 have HNE:Hid (∀ r ∈ [(g0,Z,65)],r.1≠gz):=HN2
 clear hW2 hgz h0q HR1 HB1 HN2 RZ1 hcs HP0
 have HZS:=yh hzs
 clear hzs
 go_wp2_with fail
 go_loopw [4] (fun i_ wr=>∃ k:Nat,k≤64∧i_=.int .i64 (63-(k:Int))∧∃ A,Hid (R A (hiP k M))∧Hid (RowsW wr [(gz,A,65),(g0,Z,65)])∧Hid (Below w.heap.size w wr)) (fun i_ _=>(intOf i_+1).toNat)
 case atStart=>exact ⟨0,by omega,rfl,cz,RZ2,HR2,HB2⟩
 case round =>
  clear RZ2 HR2 HB2
  obtain ⟨k,hk,rfl,A,RA,HR1,HB1⟩:=hrel
  by_cases hlt:k<64
  ·obtain ⟨i,hi⟩:∃ i,63-k=i:=⟨_,rfl⟩
   have e1:63-(k:Int)=(i:Int):=by omega
   have HE2:Hid ((i:Int)-1=63-((k+1:Nat):Int)):=yh (by omega)
   have H64:Hid (i<64):=yh (by omega)
   have hst:=HST.out k hlt
   rw [hi] at hst
   have HS1:=yh hst
   have HKL:=yh hlt
   obtain ⟨s,hs⟩:∃ s,hiP k M=s:=⟨_,rfl⟩
   rw [hs] at RA HS1
   have a0:decide (0≤(i:Int))=true:=decide_eq_true (by omega)
   have a1:IntKind.i64.wrap ((i:Int)-1)=(i:Int)-1:=by rw [IntKind.wrap_i64];have:=H64.out;omega
   rw [e1]
   clear hi e1 hst hs hlt hk
   go_wp2_with fail
   go_loopw [11] (fun j_ wr=>∃ j:Nat,j≤4∧j_=.int .i64 (j:Int)∧∃ A,Hid (R A (dblP j s))∧Hid (RowsW wr [(gz,A,65),(g0,Z,65)])∧Hid (Below w.heap.size w wr)) (fun j_ _=>4-(intOf j_).toNat)
   case atStart=>exact ⟨0,by omega,rfl,A,RA,HR1,HB1⟩
   case round =>
    clear RA HR1 HB1
    obtain ⟨j,hj,rfl,A,RA,HR1,HB1⟩:=hrel
    by_cases hlt:j<4
    ·have b0:decide ((j:Int)<4)=true:=decide_eq_true (by omega)
     have l7:=HR1.out.head
     go_wp2_with (refine yi l7 Tryz.underlying65 (C.base.info RA.out) ?_)
     with_reducible refine (C.double RA.out _).mono ?_
     rintro e v ⟨cv,rfl,rv,hv⟩
     have RV:Hid (R cv (dblP (j+1) s)):=yh rv
     have hrq:=HR1.out.below hv
     have hst:=hrq.head
     have HR3:=yh (hrq.put HNE.out cv)
     have HB3:Hid (Below w.heap.size w (v.setRow gz cv)):=yh (zac (zaa HB1.out hv) HG2.out)
     clear rv hv l7
     go_wp2_with (refine yj cv hst (C.base.info RV.out) (by rw [pt20 C.base RA.out,pt20 C.base RV.out]) (C.base.one RV.out) ?_)
     go_roundw
     case rel=>exact ⟨j+1,by omega,by go_num,cv,RV,HR3,HB3⟩
     case measure=>simp [intOf] <;> omega
    ·have b0:decide ((j:Int)<4)=false:=decide_eq_false (by omega)
     have RA2:Hid (R A (padd (pmul 16 s) (sumP (dgP i) (M.take 0)))):=yh (by
      have h:=RA.out
      rw [show j=4 by omega,dblP_pmul] at h
      rw [List.take_zero,sumP,padd_z];exact h)
     clear RA hlt hj
     go_wp2_with fail
     go_loopw [18] (fun m_ wr=>∃ m:Nat,m≤n∧m_=.int .i64 (m:Int)∧∃ A,Hid (R A (padd (pmul 16 s) (sumP (dgP i) (M.take m))))∧Hid (RowsW wr [(gz,A,65),(g0,Z,65)])∧Hid (Below w.heap.size w wr)) (fun m_ _=>n-(intOf m_).toNat)
     case atStart=>exact ⟨0,by omega,rfl,A,RA2,HR1,HB1⟩
     case round =>
      clear RA2 HR1 HB1
      obtain ⟨m,hm,rfl,A,RA,HR1,HB1⟩:=hrel
      by_cases hlt:m<n
      ·have b1:decide ((m:Int)<(n:Int))=true:=decide_eq_true (by omega)
       have b2:decide (m<n)=true:=decide_eq_true hlt
       have b3:0≤(m:Int):=by omega
       have b5:IntKind.i64.wrap ((m:Int)+1)=(m:Int)+1:=by rw [IntKind.wrap_i64];have:=HNL.out;omega
       have b4:(m:Int)<(n:Int):=by omega
       go_upto_region 12 with fail
       rename_i K5 hK5
       refine wp_region_noPanic ?_
       refine zah (S:=fun W=>Below wr.heap.size wr W) 7 (by kernel_rfl) ⟨by kernel_rfl,by kernel_rfl,by kernel_rfl,by kernel_rfl⟩ (by exact (Below.refl _ _).drew) (fun hT inv hS=>?_)
       refine' yT 0 hT inv hS (fun inv=>?_) (hy:=fun W hSW=>zad rfl rfl (HR1.out.below hSW).head Tryz.underlying65 rfl (C.base.info RA.out))
       refine' yT 1 hT inv hS (fun inv=>?_)
       refine' yT 2 hT inv hS (fun inv=>?_)
       refine' yT 3 hT inv hS (fun inv=>?_)
       refine' yT 4 hT inv hS (fun inv=>?_)
       refine xT 5 inv (fun K hK=>?_)
       go_simp
       with_reducible refine (HPA.out _ m _ i (below_then HB1.out hS) hlt rfl H64.out).mono ?_
       rintro e v5 ⟨c5,rfl,r5,hv5⟩
       have R5:=yh r5
       clear r5
       have hb5:=zaa hS hv5
       clear hS hv5
       refine hK.out _ _ (by exact hb5) (fun inv hS=>?_)
       clear hK K
       refine xT 6 inv (fun K hK=>?_)
       go_simp
       with_reducible refine ((C.add RA.out R5.out) _).mono ?_
       rintro e v6 ⟨c6,rfl,r6,hv6⟩
       rw [padd_assoc,HTK.out i m hlt] at r6
       have R6:=yh r6
       clear r6
       have hb6:=zaa hS hv6
       clear hS hv6
       refine hK.out _ _ (by exact hb6) (fun inv hS=>?_)
       clear hK K
       refine zaD (by kernel_rfl) ?_
       simp only [List.drop_succ_cons,List.drop_zero]
       have hrq:=HR1.out.below hb6
       have hst:=hrq.head
       have HR3:=yh (hrq.put HNE.out c6)
       have HB3:Hid (Below w.heap.size w (v6.setRow gz c6)):=yh (zac (below_then HB1.out hb6) HG2.out)
       go_wp2_with (refine yj c6 hst (C.base.info R6.out) (by rw [pt20 C.base RA.out,pt20 C.base R6.out]) (C.base.one R6.out) ?_)
       refine hK5 _ _ ?_
       go_wp2_with fail
       go_roundw
       case rel=>exact ⟨m+1,by omega,by go_num,c6,R6,HR3,HB3⟩
       case measure=>simp [intOf] <;> omega
      ·have b1:decide ((m:Int)<(n:Int))=false:=decide_eq_false (by omega)
       have b2:decide (m<n)=false:=decide_eq_false hlt
       have RN:Hid (R A (hiP (k+1) M)):=yh (by
        have h:=RA.out
        rw [show m=n by omega,HS1.out] at h;exact h)
       clear RA hlt hm
       go_wp2_with fail
       go_roundw
       case rel=>exact ⟨k+1,by have:=HKL.out;omega,by rw [← HE2.out],A,RN,HR1,HB1⟩
       case measure=>simp [intOf] <;> omega
  ·have a0:decide (0≤63-(k:Int))=false:=decide_eq_false (by omega)
   have a1:decide ((k:Int)≤63)=false:=decide_eq_false (by omega)
   have RN:Hid (R A (hiP 64 M)):=yh (by
    have h:=RA.out
    rw [show k=64 by omega] at h;exact h)
   have hr0:=HR1.out.head
   have hr1:=HR1.out.tail.head
   have hf:(wr.setRow g0 A).heap[g0]?=some (.cells A 65 (0,0)):=setRow_heap _ _ _ _ _ _ hr1
   have HF:=yh hf
   have HB3:Hid (Below w.heap.size w (wr.setRow g0 A)):=yh (zac HB1.out (by have:=HG0.out;omega))
   clear hlt hk RA hf
   go_wp2_with (first
    | (refine yi hr0 Tryz.underlying65 (C.base.info RN.out) ?_)
    | (refine yj A hr1 (C.base.info RN.out) (by rw [HZS.out,pt20 C.base RN.out]) (C.base.one RN.out) ?_))
   (try simp only [Exit.inBlock,Exit.then])
   refine bodyPost_ret (results_cell_row rfl _ _ g0 _ A _ _ rfl HF.out Tryz.underlying65 rfl (C.base.info RN.out)) rfl ?_
   exact ⟨A,rfl,RN.out,HB3.out⟩
theorem ptd_any {R:Array Value→Nat→Prop} (C:FeC R)  (w:World):Calls Tryz.prog 84 #[] w (RetFe R w edN):=by
 obtain ⟨Z,hZ,rZ⟩:=C.base.zero
 have RZZ:=yh rZ
 have hzP:=zp_of hZ
 have hz32:=zaq
 clear rZ
 have HR0:=yh ((RowsW.nil w).box Z 63)
 have HB0:=yh (zae (Below.refl w.heap.size w) Z 63)
 go_enter Tryz.func84,Tryz.ntmps84
 go_upto_region 1 with fail
 obtain ⟨W0,hW0⟩:∃ W,(w.alloc (.cells Z 63))=W:=⟨_,rfl⟩
 obtain ⟨g0,hg0⟩:∃ g,w.heap.size=g:=⟨_,rfl⟩
 rw [hW0] at HR0 HB0
 rw [hg0] at HR0
 rw [hW0,hg0]
 have HG0:=yh hg0
 clear hW0 hg0
 go_wp2_with (refine zaG (o:=⟨some 1,_,_,_,_,_⟩) rfl (.agg (arrB bD)) ?_ ?_;kernel_rfl)
 have fb2:∀ W:World,Calls Tryz.prog 77 #[.agg (arrB bD)] W (RetFe R W edN):=fun W=>by have h:=C.from_ bD bD_len W;rw [bD_fe] at h;exact h
 with_reducible refine (fb2 _).mono ?_
 rintro e vq1 ⟨cq1,rfl,rq1,hbq1⟩
 have Rq1:=yh rq1
 clear rq1
 have HRq1:=yh (HR0.out.below hbq1)
 have HBq1:=yh (zaa HB0.out hbq1)
 clear hbq1
 have lsq2:=HRq1.out.head
 have HRq2:Hid (RowsW (vq1.setRow g0 cq1) [(g0,cq1,63)]):=yh ⟨setRow_heap _ _ _ _ _ _ lsq2,trivial⟩
 have HBq2:=yh (zac (g:=g0) (cs:=cq1) HBq1.out (by have:=HG0.out;omega))
 go_wp2_with (refine yj cq1 lsq2 (C.base.info Rq1.out) (C.base.size RZZ.out Rq1.out) (C.base.one Rq1.out) ?_)
 obtain ⟨Wq2,hWq2⟩:∃ W,vq1.setRow g0 cq1=W:=⟨_,rfl⟩
 rw [hWq2] at HRq2 HBq2
 (try rw [hWq2])
 clear hWq2 lsq2
 (try simp only [Exit.inBlock,Exit.then])
 refine bodyPost_ret (results_cell_row rfl _ _ g0 _ cq1 _ _ rfl HRq2.out.head Tryz.underlying63 rfl (C.base.info Rq1.out)) rfl ?_
 exact ⟨_,rfl,Rq1.out,HBq2.out⟩
theorem ptof_any {R:Array Value→Nat→Prop} (C:FeC R) {c:Array Value} {x:Nat} (hc:R c x) {e:Array Value} {y:Nat} (he:R e y) (w:World):Calls Tryz.prog 87 #[.agg c,.agg e] w (RetPP R w x y 1 ((x*y) % PP)):=by
 have Rc:=yh hc
 clear hc
 have Lx:Hid (x<PP):=yh (C.base.lt Rc.out)
 have Re:=yh he
 clear he
 have Ly:Hid (y<PP):=yh (C.base.lt Re.out)
 obtain ⟨Z,hZ,rZ⟩:=C.base.zero
 have RZZ:=yh rZ
 have hzP:=zp_of hZ
 have hz32:=zaq
 clear rZ
 have HR0:=yh ((((RowsW.nil w).box c 63).box e 63).box (quad Z Z Z Z) 65)
 have HB0:=yh (zae (zae (zae (Below.refl w.heap.size w) c 63) e 63) (quad Z Z Z Z) 65)
 rw [World.size_alloc] at HR0
 rw [World.size_alloc] at HR0
 go_enter Tryz.func87,Tryz.ntmps87
 go_upto_region 1 with fail
 obtain ⟨W0,hW0⟩:∃ W,(((w.alloc (.cells c 63)).alloc (.cells e 63)).alloc (.cells (quad Z Z Z Z) 65))=W:=⟨_,rfl⟩
 obtain ⟨g0,hg0⟩:∃ g,w.heap.size=g:=⟨_,rfl⟩
 rw [hW0] at HR0 HB0
 rw [hg0] at HR0
 rw [hW0,hg0]
 have HG0:=yh hg0
 clear hW0 hg0
 refine wp_region_noPanic ?_
 refine zah (S:=fun W=>Below W0.heap.size W0 W) 7 (by kernel_rfl) ⟨by kernel_rfl,by kernel_rfl,by kernel_rfl,by kernel_rfl⟩ (by exact (Below.refl _ _).drew) (fun hT inv hS=>?_)
 refine' yT 0 hT inv hS (fun inv=>?_) (hy:=fun W hSW=>zad rfl rfl (HR0.out.below hSW).tail.tail.head Tryz.underlying63 rfl (C.base.info Rc.out))
 refine' yT 1 hT inv hS (fun inv=>?_) (hy:=fun W hSW=>zad rfl rfl (HR0.out.below hSW).tail.head Tryz.underlying63 rfl (C.base.info Re.out))
 refine' yT 3 hT inv hS (fun inv=>?_) (hy:=fun W hSW=>zad rfl rfl (HR0.out.below hSW).tail.tail.head Tryz.underlying63 rfl (C.base.info Rc.out))
 refine' yT 4 hT inv hS (fun inv=>?_) (hy:=fun W hSW=>zad rfl rfl (HR0.out.below hSW).tail.head Tryz.underlying63 rfl (C.base.info Re.out))
 refine xT 2 inv (fun K hK=>?_)
 go_simp
 have s7_1:∀ W:World,Calls Tryz.prog 78 #[.int .u64 1] W (RetFe R W 1):=fun W=>C.small 1 (by decide) W
 with_reducible refine (s7_1 _).mono ?_
 rintro e vq1 ⟨cq1,rfl,rq1,hbq1⟩
 have Rq1:=yh rq1
 clear rq1
 have kbq1:=zaa hS hbq1
 clear hS hbq1
 refine hK.out _ _ (by exact kbq1) (fun inv hS=>?_)
 clear hK K
 refine xT 5 inv (fun K hK=>?_)
 go_simp
 obtain ⟨n2,Hn2,HLn2⟩:=ym (K:=PP) ((x*y) % PP) (Nat.mod_lt _ (by decide))
 with_reducible refine ((C.mul Rc.out Re.out) _).mono ?_
 rintro e vq3 ⟨cq3,rfl,rq3,hbq3⟩
 rw [Hn2.out] at rq3
 have Rq3:=yh rq3
 clear rq3
 have kbq3:=zaa kbq1 hbq3
 clear hS hbq3
 refine hK.out _ _ (by exact kbq3) (fun inv hS=>?_)
 clear hK K
 refine' yT 6 hT inv hS (fun inv=>?_) (hy:=fun W hSW=>run_buildF4 rfl rfl rfl rfl rfl (fe5 C.base Rc.out) (fe5 C.base Re.out) (fe5 C.base Rq1.out) (fe5 C.base Rq3.out))
 refine zaD (by kernel_rfl) ?_
 simp only [List.drop_succ_cons,List.drop_zero]
 clear hS
 (try simp only [Act.put])
 have HRq4:=yh (HR0.out.below kbq3)
 have HBq4:=yh (zaa HB0.out kbq3)
 have lsq5:=HRq4.out.head
 have HRq5:Hid (RowsW (vq3.setRow (g0+1+1) (quad c e cq1 cq3)) [((g0+1+1),(quad c e cq1 cq3),65),((g0+1),e,63),(g0,c,63)]):=yh ⟨setRow_heap _ _ _ _ _ _ lsq5,(by rw [setRow_other _ _ _ _ (by omega)];exact HRq4.out.tail.head),(by rw [setRow_other _ _ _ _ (by omega)];exact HRq4.out.tail.tail.head),trivial⟩
 have HBq5:=yh (zac (g:=(g0+1+1)) (cs:=(quad c e cq1 cq3)) HBq4.out (by have:=HG0.out;omega))
 go_wp2_with (refine yj (quad c e cq1 cq3) lsq5 (zat C.base Rc.out Re.out Rq1.out Rq3.out) ((zas C.base RZZ.out RZZ.out RZZ.out RZZ.out).trans (zas C.base Rc.out Re.out Rq1.out Rq3.out).symm) (pp_one C.base Rc.out Re.out Rq1.out Rq3.out) ?_)
 obtain ⟨Wq5,hWq5⟩:∃ W,vq3.setRow (g0+1+1) (quad c e cq1 cq3)=W:=⟨_,rfl⟩
 rw [hWq5] at HRq5 HBq5
 (try rw [hWq5])
 clear hWq5 lsq5
 refine NoPanic.normal ?_
 go_wp2_with fail
 (try simp only [Exit.inBlock,Exit.then])
 refine bodyPost_ret (results_cell_row rfl _ _ (g0+1+1) _ (quad c e cq1 cq3) _ _ rfl HRq5.out.head Tryz.underlying65 rfl (zat C.base Rc.out Re.out Rq1.out Rq3.out)) rfl ?_
 exact ⟨_,_,_,_,rfl,Rc.out,Re.out,Rq1.out,by rw [Hn2.out];exact Rq3.out,HBq5.out⟩
theorem ptzero_any {R:Array Value→Nat→Prop} (C:FeC R)  (w:World):Calls Tryz.prog 129 #[] w (RetPP R w 0 1 1 0):=by
 obtain ⟨Z,hZ,rZ⟩:=C.base.zero
 have RZZ:=yh rZ
 have hzP:=zp_of hZ
 have hz32:=zaq
 clear rZ
 have HR0:=yh ((RowsW.nil w).box (quad Z Z Z Z) 65)
 have HB0:=yh (zae (Below.refl w.heap.size w) (quad Z Z Z Z) 65)
 go_enter Tryz.func129,Tryz.ntmps129
 go_upto_region 1 with fail
 obtain ⟨W0,hW0⟩:∃ W,(w.alloc (.cells (quad Z Z Z Z) 65))=W:=⟨_,rfl⟩
 obtain ⟨g0,hg0⟩:∃ g,w.heap.size=g:=⟨_,rfl⟩
 rw [hW0] at HR0 HB0
 rw [hg0] at HR0
 rw [hW0,hg0]
 have HG0:=yh hg0
 clear hW0 hg0
 go_wp2_with (refine zaj (o:=⟨some 1,_,_,_,_,_⟩) rfl (.agg Z) (run_build5 hZ rfl) ?_)
 have s2_1:∀ W:World,Calls Tryz.prog 78 #[.int .u64 1] W (RetFe R W 1):=fun W=>C.small 1 (by decide) W
 with_reducible refine (s2_1 _).mono ?_
 rintro e vq1 ⟨cq1,rfl,rq1,hbq1⟩
 have Rq1:=yh rq1
 clear rq1
 have HRq1:=yh (HR0.out.below hbq1)
 have HBq1:=yh (zaa HB0.out hbq1)
 clear hbq1
 go_wp2_with fail
 obtain ⟨n2,Hn2,HLn2⟩:=ym (K:=PP) ((0*1) % PP) (Nat.mod_lt _ (by decide))
 have kq3:=fun W:World=>(ptof_any C RZZ.out Rq1.out) W
 rw [Hn2.out] at kq3
 have Kq3:=yh kq3
 clear kq3
 with_reducible refine (Kq3.out _).mono ?_
 rintro e vq3 ⟨aq3,bq3,dq3,fq3,rfl,hRaq3,hRbq3,hRdq3,hRfq3,hbq3⟩
 have Raq3:=yh hRaq3
 have Rbq3:=yh hRbq3
 have Rdq3:=yh hRdq3
 have Rfq3:=yh hRfq3
 clear hRaq3 hRbq3 hRdq3 hRfq3
 have HRq3:=yh (HRq1.out.below hbq3)
 have HBq3:=yh (zaa HBq1.out hbq3)
 clear hbq3
 have lsq4:=HRq3.out.head
 have HRq4:Hid (RowsW (vq3.setRow g0 (quad aq3 bq3 dq3 fq3)) [(g0,(quad aq3 bq3 dq3 fq3),65)]):=yh ⟨setRow_heap _ _ _ _ _ _ lsq4,trivial⟩
 have HBq4:=yh (zac (g:=g0) (cs:=(quad aq3 bq3 dq3 fq3)) HBq3.out (by have:=HG0.out;omega))
 go_wp2_with (refine yj (quad aq3 bq3 dq3 fq3) lsq4 (zat C.base Raq3.out Rbq3.out Rdq3.out Rfq3.out) ((zas C.base RZZ.out RZZ.out RZZ.out RZZ.out).trans (zas C.base Raq3.out Rbq3.out Rdq3.out Rfq3.out).symm) (pp_one C.base Raq3.out Rbq3.out Rdq3.out Rfq3.out) ?_)
 obtain ⟨Wq4,hWq4⟩:∃ W,vq3.setRow g0 (quad aq3 bq3 dq3 fq3)=W:=⟨_,rfl⟩
 rw [hWq4] at HRq4 HBq4
 (try rw [hWq4])
 clear hWq4 lsq4
 (try simp only [Exit.inBlock,Exit.then])
 refine bodyPost_ret (results_cell_row rfl _ _ g0 _ (quad aq3 bq3 dq3 fq3) _ _ rfl HRq4.out.head Tryz.underlying65 rfl (zat C.base Raq3.out Rbq3.out Rdq3.out Rfq3.out)) rfl ?_
 exact ⟨_,_,_,_,rfl,Raq3.out,Rbq3.out,Rdq3.out,by have h:=Rfq3.out;rwa [← Hn2.out,Nat.zero_mul,Nat.zero_mod] at h,HBq4.out⟩
theorem ptbase_any {R:Array Value→Nat→Prop} (C:FeC R)  (w:World):Calls Tryz.prog 91 #[] w (RetPt (ptRof R) w F25519.base):=by
 obtain ⟨Z,hZ,rZ⟩:=C.base.zero
 have RZZ:=yh rZ
 have hzP:=zp_of hZ
 have hz32:=zaq
 clear rZ
 have HR0:=yh ((RowsW.nil w).box (quad Z Z Z Z) 65)
 have HB0:=yh (zae (Below.refl w.heap.size w) (quad Z Z Z Z) 65)
 go_enter Tryz.func91,Tryz.ntmps91
 go_upto_region 1 with fail
 obtain ⟨W0,hW0⟩:∃ W,(w.alloc (.cells (quad Z Z Z Z) 65))=W:=⟨_,rfl⟩
 obtain ⟨g0,hg0⟩:∃ g,w.heap.size=g:=⟨_,rfl⟩
 rw [hW0] at HR0 HB0
 rw [hg0] at HR0
 rw [hW0,hg0]
 have HG0:=yh hg0
 clear hW0 hg0
 go_wp2_with (refine zaG (o:=⟨some 3,_,_,_,_,_⟩) rfl (.agg (arrB bBX)) ?_ ?_;kernel_rfl)
 have fb4:∀ W:World,Calls Tryz.prog 77 #[.agg (arrB bBX)] W (RetFe R W F25519.bX):=fun W=>by have h:=C.from_ bBX bBX_len W;rw [bBX_fe] at h;exact h
 with_reducible refine (fb4 _).mono ?_
 rintro e vq1 ⟨cq1,rfl,rq1,hbq1⟩
 have Rq1:=yh rq1
 clear rq1
 have HRq1:=yh (HR0.out.below hbq1)
 have HBq1:=yh (zaa HB0.out hbq1)
 clear hbq1
 have h0q2:(vq1.alloc (.cells Z 63)).heap[vq1.heap.size]?=some (.cells Z 63 (0,0)):=heap_alloc_new _ _
 have HRq2:=yh (HRq1.out.new Z cq1 63)
 have HBq2:=yh (zau HBq1.out Z cq1 63)
 have HNq2:=yh HRq1.out.ne
 have HGq2:=yh HBq1.out.size
 go_upto_region 2 with (refine yj cq1 h0q2 (C.base.info Rq1.out) (C.base.size RZZ.out Rq1.out) (C.base.one Rq1.out) ?_)
 obtain ⟨Wq2,hWq2⟩:∃ W,(vq1.alloc (.cells Z 63)).setRow vq1.heap.size cq1=W:=⟨_,rfl⟩
 obtain ⟨gq2,hgq2⟩:∃ g,vq1.heap.size=g:=⟨_,rfl⟩
 rw [hWq2,hgq2] at HRq2
 rw [hWq2] at HBq2
 rw [hgq2] at HNq2 HGq2
 rw [hWq2,hgq2]
 clear hWq2 hgq2 h0q2
 have NEq2_0:Hid (g0≠gq2):=yh (HNq2.out (g0,(quad Z Z Z Z),65) (by simp))
 go_wp2_with (refine zaG (o:=⟨some 5,_,_,_,_,_⟩) rfl (.agg (arrB bBY)) ?_ ?_;kernel_rfl)
 have fb6:∀ W:World,Calls Tryz.prog 77 #[.agg (arrB bBY)] W (RetFe R W F25519.bY):=fun W=>by have h:=C.from_ bBY bBY_len W;rw [bBY_fe] at h;exact h
 with_reducible refine (fb6 _).mono ?_
 rintro e vq3 ⟨cq3,rfl,rq3,hbq3⟩
 have Rq3:=yh rq3
 clear rq3
 have HRq3:=yh (HRq2.out.below hbq3)
 have HBq3:=yh (zaa HBq2.out hbq3)
 clear hbq3
 have h0q4:(vq3.alloc (.cells Z 63)).heap[vq3.heap.size]?=some (.cells Z 63 (0,0)):=heap_alloc_new _ _
 have HRq4:=yh (HRq3.out.new Z cq3 63)
 have HBq4:=yh (zau HBq3.out Z cq3 63)
 have HNq4:=yh HRq3.out.ne
 have HGq4:=yh HBq3.out.size
 go_upto_region 3 with (refine yj cq3 h0q4 (C.base.info Rq3.out) (C.base.size RZZ.out Rq3.out) (C.base.one Rq3.out) ?_)
 obtain ⟨Wq4,hWq4⟩:∃ W,(vq3.alloc (.cells Z 63)).setRow vq3.heap.size cq3=W:=⟨_,rfl⟩
 obtain ⟨gq4,hgq4⟩:∃ g,vq3.heap.size=g:=⟨_,rfl⟩
 rw [hWq4,hgq4] at HRq4
 rw [hWq4] at HBq4
 rw [hgq4] at HNq4 HGq4
 rw [hWq4,hgq4]
 clear hWq4 hgq4 h0q4
 have NEq4_0:Hid (g0≠gq4):=yh (HNq4.out (g0,(quad Z Z Z Z),65) (by simp))
 have NEq4_1:Hid (gq2≠gq4):=yh (HNq4.out (gq2,cq1,63) (by simp))
 have l5:=HRq4.out.tail.head
 have l6:=HRq4.out.head
 go_wp2_with (first
   | (refine yi l5 Tryz.underlying63 (C.base.info Rq1.out) ?_)
   | (refine yi l6 Tryz.underlying63 (C.base.info Rq3.out) ?_))
 obtain ⟨n7,Hn7,HLn7⟩:=ym (K:=PP) ((F25519.bX*F25519.bY) % PP) (Nat.mod_lt _ (by decide))
 have kq8:=fun W:World=>(ptof_any C Rq1.out Rq3.out) W
 rw [Hn7.out] at kq8
 have Kq8:=yh kq8
 clear kq8
 with_reducible refine (Kq8.out _).mono ?_
 rintro e vq8 ⟨aq8,bq8,dq8,fq8,rfl,hRaq8,hRbq8,hRdq8,hRfq8,hbq8⟩
 have Raq8:=yh hRaq8
 have Rbq8:=yh hRbq8
 have Rdq8:=yh hRdq8
 have Rfq8:=yh hRfq8
 clear hRaq8 hRbq8 hRdq8 hRfq8
 have HRq8:=yh (HRq4.out.below hbq8)
 have HBq8:=yh (zaa HBq4.out hbq8)
 clear hbq8
 have lsq9:=HRq8.out.tail.tail.head
 have HRq9:Hid (RowsW (vq8.setRow g0 (quad aq8 bq8 dq8 fq8)) [(gq4,cq3,63),(gq2,cq1,63),(g0,(quad aq8 bq8 dq8 fq8),65)]):=yh ⟨(by rw [setRow_other _ _ _ _ (Ne.symm NEq4_0.out)];exact HRq8.out.head),(by rw [setRow_other _ _ _ _ (Ne.symm NEq2_0.out)];exact HRq8.out.tail.head),setRow_heap _ _ _ _ _ _ lsq9,trivial⟩
 have HBq9:=yh (zac (g:=g0) (cs:=(quad aq8 bq8 dq8 fq8)) HBq8.out (by have:=HG0.out;omega))
 go_wp2_with (refine yj (quad aq8 bq8 dq8 fq8) lsq9 (zat C.base Raq8.out Rbq8.out Rdq8.out Rfq8.out) ((zas C.base RZZ.out RZZ.out RZZ.out RZZ.out).trans (zas C.base Raq8.out Rbq8.out Rdq8.out Rfq8.out).symm) (pp_one C.base Raq8.out Rbq8.out Rdq8.out Rfq8.out) ?_)
 obtain ⟨Wq9,hWq9⟩:∃ W,vq8.setRow g0 (quad aq8 bq8 dq8 fq8)=W:=⟨_,rfl⟩
 rw [hWq9] at HRq9 HBq9
 (try rw [hWq9])
 clear hWq9 lsq9
 (try simp only [Exit.inBlock,Exit.then])
 refine bodyPost_ret (results_cell_row rfl _ _ g0 _ (quad aq8 bq8 dq8 fq8) _ _ rfl HRq9.out.tail.tail.head Tryz.underlying65 rfl (zat C.base Raq8.out Rbq8.out Rdq8.out Rfq8.out)) rfl ?_
 exact ⟨_,rfl,⟨_,_,_,_,_,_,_,_,rfl,Raq8.out,Rbq8.out,Rdq8.out,Rfq8.out,.inl (by rw [← Hn7.out];exact base_co)⟩,HBq9.out⟩
theorem ptfilled_any {R:Array Value→Nat→Prop} (C:FeC R) {a1 b1 d1 f1:Array Value} {X1 Y1 Z1 T1:Nat} {p1:PtD} (ha1:R a1 X1) (hb1:R b1 Y1) (hd1:R d1 Z1) (hf1:R f1 T1) (hP1:Pq X1 Y1 Z1 T1 p1) (w:World):Calls Tryz.prog 92 #[.agg (quad a1 b1 d1 f1)] w (RetCo R w p1):=by
 have Ra1:=yh ha1
 have Rb1:=yh hb1
 have Rd1:=yh hd1
 have Rf1:=yh hf1
 clear ha1 hb1 hd1 hf1
 have LX1:Hid (X1<PP):=yh (C.base.lt Ra1.out)
 have LY1:Hid (Y1<PP):=yh (C.base.lt Rb1.out)
 have LZ1:Hid (Z1<PP):=yh (C.base.lt Rd1.out)
 have LT1:Hid (T1<PP):=yh (C.base.lt Rf1.out)
 have HP1:=yh hP1
 clear hP1
 obtain ⟨Z,hZ,rZ⟩:=C.base.zero
 have RZZ:=yh rZ
 have hzP:=zp_of hZ
 have hz32:=zaq
 clear rZ
 have HR0:=yh (((RowsW.nil w).box (quad a1 b1 d1 f1) 65).box (quad Z Z Z Z) 65)
 have HB0:=yh (zae (zae (Below.refl w.heap.size w) (quad a1 b1 d1 f1) 65) (quad Z Z Z Z) 65)
 rw [World.size_alloc] at HR0
 go_enter Tryz.func92,Tryz.ntmps92
 go_upto_region 1 with fail
 obtain ⟨W0,hW0⟩:∃ W,((w.alloc (.cells (quad a1 b1 d1 f1) 65)).alloc (.cells (quad Z Z Z Z) 65))=W:=⟨_,rfl⟩
 obtain ⟨g0,hg0⟩:∃ g,w.heap.size=g:=⟨_,rfl⟩
 rw [hW0] at HR0 HB0
 rw [hg0] at HR0
 rw [hW0,hg0]
 have HG0:=yh hg0
 clear hW0 hg0
 by_cases hz:Z1=0
 ·have HZ:=yh hz
  clear hz
  have l1:=HR0.out.tail.head
  go_wp2_with (refine zaj (o:=⟨some 4,_,_,_,_,_⟩) rfl (.agg d1) (zal rfl rfl l1 Tryz.underlying63 rfl (C.base.info Rd1.out) (pp_2 (fe5 C.base Ra1.out) (fe5 C.base Rb1.out))) ?_)
  have kq2:=fun W:World=>(C.isZero Rd1.out) W
  rw [decide_eq_true (show Z1=0 from HZ.out)] at kq2
  have Kq2:=yh kq2
  clear kq2
  with_reducible refine (Kq2.out _).mono ?_
  rintro e vq2 ⟨rfl,hbq2⟩
  have HRq2:=yh (HR0.out.below hbq2)
  have HBq2:=yh (zaa HB0.out hbq2)
  clear hbq2
  go_upto_region 2 with fail
  go_wp2_with fail
  have kq3:=fun W:World=>(ptzero_any C) W
  have Kq3:=yh kq3
  clear kq3
  with_reducible refine (Kq3.out _).mono ?_
  rintro e vq3 ⟨aq3,bq3,dq3,fq3,rfl,hRaq3,hRbq3,hRdq3,hRfq3,hbq3⟩
  have Raq3:=yh hRaq3
  have Rbq3:=yh hRbq3
  have Rdq3:=yh hRdq3
  have Rfq3:=yh hRfq3
  clear hRaq3 hRbq3 hRdq3 hRfq3
  have HRq3:=yh (HRq2.out.below hbq3)
  have HBq3:=yh (zaa HBq2.out hbq3)
  clear hbq3
  have lsq4:=HRq3.out.head
  have HRq4:Hid (RowsW (vq3.setRow (g0+1) (quad aq3 bq3 dq3 fq3)) [((g0+1),(quad aq3 bq3 dq3 fq3),65),(g0,(quad a1 b1 d1 f1),65)]):=yh ⟨setRow_heap _ _ _ _ _ _ lsq4,(by rw [setRow_other _ _ _ _ (by omega)];exact HRq3.out.tail.head),trivial⟩
  have HBq4:=yh (zac (g:=(g0+1)) (cs:=(quad aq3 bq3 dq3 fq3)) HBq3.out (by have:=HG0.out;omega))
  go_wp2_with (refine yj (quad aq3 bq3 dq3 fq3) lsq4 (zat C.base Raq3.out Rbq3.out Rdq3.out Rfq3.out) ((zas C.base RZZ.out RZZ.out RZZ.out RZZ.out).trans (zas C.base Raq3.out Rbq3.out Rdq3.out Rfq3.out).symm) (pp_one C.base Raq3.out Rbq3.out Rdq3.out Rfq3.out) ?_)
  obtain ⟨Wq4,hWq4⟩:∃ W,vq3.setRow (g0+1) (quad aq3 bq3 dq3 fq3)=W:=⟨_,rfl⟩
  rw [hWq4] at HRq4 HBq4
  (try rw [hWq4])
  clear hWq4 lsq4
  (try simp only [Exit.inBlock,Exit.then])
  refine bodyPost_ret (results_cell_row rfl _ _ (g0+1) _ (quad aq3 bq3 dq3 fq3) _ _ rfl HRq4.out.head Tryz.underlying65 rfl (zat C.base Raq3.out Rbq3.out Rdq3.out Rfq3.out)) rfl ?_
  exact ⟨_,_,_,_,_,_,_,_,rfl,Raq3.out,Rbq3.out,Rdq3.out,Rfq3.out,by rw [HP1.out.yes HZ.out];exact co_zero,HBq4.out⟩
 ·have HZ:=yh hz
  clear hz
  have l5:=HR0.out.tail.head
  go_wp2_with (refine zaj (o:=⟨some 4,_,_,_,_,_⟩) rfl (.agg d1) (zal rfl rfl l5 Tryz.underlying63 rfl (C.base.info Rd1.out) (pp_2 (fe5 C.base Ra1.out) (fe5 C.base Rb1.out))) ?_)
  have kq6:=fun W:World=>(C.isZero Rd1.out) W
  rw [decide_eq_false (show ¬ Z1=0 from HZ.out)] at kq6
  have Kq6:=yh kq6
  clear kq6
  with_reducible refine (Kq6.out _).mono ?_
  rintro e vq6 ⟨rfl,hbq6⟩
  have HRq6:=yh (HR0.out.below hbq6)
  have HBq6:=yh (zaa HB0.out hbq6)
  clear hbq6
  go_upto_region 3 with fail
  have l7:=HRq6.out.tail.head
  have lsq8:=HRq6.out.head
  have HRq8:Hid (RowsW (vq6.setRow (g0+1) (quad a1 b1 d1 f1)) [((g0+1),(quad a1 b1 d1 f1),65),(g0,(quad a1 b1 d1 f1),65)]):=yh ⟨setRow_heap _ _ _ _ _ _ lsq8,(by rw [setRow_other _ _ _ _ (by omega)];exact HRq6.out.tail.head),trivial⟩
  have HBq8:=yh (zac (g:=(g0+1)) (cs:=(quad a1 b1 d1 f1)) HBq6.out (by have:=HG0.out;omega))
  go_wp2_with (first
    | (refine yi l7 Tryz.underlying65 (zat C.base Ra1.out Rb1.out Rd1.out Rf1.out) ?_)
    | (refine yj (quad a1 b1 d1 f1) lsq8 (zat C.base Ra1.out Rb1.out Rd1.out Rf1.out) ((zas C.base RZZ.out RZZ.out RZZ.out RZZ.out).trans (zas C.base Ra1.out Rb1.out Rd1.out Rf1.out).symm) (pp_one C.base Ra1.out Rb1.out Rd1.out Rf1.out) ?_))
  obtain ⟨Wq8,hWq8⟩:∃ W,vq6.setRow (g0+1) (quad a1 b1 d1 f1)=W:=⟨_,rfl⟩
  rw [hWq8] at HRq8 HBq8
  (try rw [hWq8])
  clear hWq8 lsq8
  (try simp only [Exit.inBlock,Exit.then])
  refine bodyPost_ret (results_cell_row rfl _ _ (g0+1) _ (quad a1 b1 d1 f1) _ _ rfl HRq8.out.head Tryz.underlying65 rfl (zat C.base Ra1.out Rb1.out Rd1.out Rf1.out)) rfl ?_
  exact ⟨_,_,_,_,_,_,_,_,rfl,Ra1.out,Rb1.out,Rd1.out,Rf1.out,HP1.out.no HZ.out,HBq8.out⟩
theorem ptratios_any {R:Array Value→Nat→Prop} (C:FeC R) {c0:Array Value} {x0:Nat} (hc0:R c0 x0) {c1:Array Value} {x1:Nat} (hc1:R c1 x1) {c2:Array Value} {x2:Nat} (hc2:R c2 x2) {c3:Array Value} {x3:Nat} (hc3:R c3 x3) (w:World):Calls Tryz.prog 160 #[.agg c0,.agg c1,.agg c2,.agg c3] w (RetPP R w ((x0*x3) % PP) ((x1*x2) % PP) ((x3*x1) % PP) ((x0*x2) % PP)):=by
 have Rc0:=yh hc0
 clear hc0
 have Lx0:Hid (x0<PP):=yh (C.base.lt Rc0.out)
 have Rc1:=yh hc1
 clear hc1
 have Lx1:Hid (x1<PP):=yh (C.base.lt Rc1.out)
 have Rc2:=yh hc2
 clear hc2
 have Lx2:Hid (x2<PP):=yh (C.base.lt Rc2.out)
 have Rc3:=yh hc3
 clear hc3
 have Lx3:Hid (x3<PP):=yh (C.base.lt Rc3.out)
 obtain ⟨Z,hZ,rZ⟩:=C.base.zero
 have RZZ:=yh rZ
 have hzP:=zp_of hZ
 have hz32:=zaq
 clear rZ
 have HR0:=yh ((((((RowsW.nil w).box c0 63).box c1 63).box c2 63).box c3 63).box (quad Z Z Z Z) 65)
 have HB0:=yh (zae (zae (zae (zae (zae (Below.refl w.heap.size w) c0 63) c1 63) c2 63) c3 63) (quad Z Z Z Z) 65)
 rw [World.size_alloc] at HR0
 rw [World.size_alloc] at HR0
 try rw [World.size_alloc] at HR0
 try rw [World.size_alloc] at HR0
 go_enter Tryz.func160,Tryz.ntmps160
 go_upto_region 1 with fail
 obtain ⟨W0,hW0⟩:∃ W,(((((w.alloc (.cells c0 63)).alloc (.cells c1 63)).alloc (.cells c2 63)).alloc (.cells c3 63)).alloc (.cells (quad Z Z Z Z) 65))=W:=⟨_,rfl⟩
 obtain ⟨g0,hg0⟩:∃ g,w.heap.size=g:=⟨_,rfl⟩
 rw [hW0] at HR0 HB0
 rw [hg0] at HR0
 rw [hW0,hg0]
 have HG0:=yh hg0
 clear hW0 hg0
 refine wp_region_noPanic ?_
 refine zah (S:=fun W=>Below W0.heap.size W0 W) 13 (by kernel_rfl) ⟨by kernel_rfl,by kernel_rfl,by kernel_rfl,by kernel_rfl⟩ (by exact (Below.refl _ _).drew) (fun hT inv hS=>?_)
 refine' yT 0 hT inv hS (fun inv=>?_) (hy:=fun W hSW=>zad rfl rfl (HR0.out.below hSW).tail.tail.tail.tail.head Tryz.underlying63 rfl (C.base.info Rc0.out))
 refine' yT 1 hT inv hS (fun inv=>?_) (hy:=fun W hSW=>zad rfl rfl (HR0.out.below hSW).tail.head Tryz.underlying63 rfl (C.base.info Rc3.out))
 refine' yT 3 hT inv hS (fun inv=>?_) (hy:=fun W hSW=>zad rfl rfl (HR0.out.below hSW).tail.tail.tail.head Tryz.underlying63 rfl (C.base.info Rc1.out))
 refine' yT 4 hT inv hS (fun inv=>?_) (hy:=fun W hSW=>zad rfl rfl (HR0.out.below hSW).tail.tail.head Tryz.underlying63 rfl (C.base.info Rc2.out))
 refine' yT 6 hT inv hS (fun inv=>?_) (hy:=fun W hSW=>zad rfl rfl (HR0.out.below hSW).tail.head Tryz.underlying63 rfl (C.base.info Rc3.out))
 refine' yT 7 hT inv hS (fun inv=>?_) (hy:=fun W hSW=>zad rfl rfl (HR0.out.below hSW).tail.tail.tail.head Tryz.underlying63 rfl (C.base.info Rc1.out))
 refine' yT 9 hT inv hS (fun inv=>?_) (hy:=fun W hSW=>zad rfl rfl (HR0.out.below hSW).tail.tail.tail.tail.head Tryz.underlying63 rfl (C.base.info Rc0.out))
 refine' yT 10 hT inv hS (fun inv=>?_) (hy:=fun W hSW=>zad rfl rfl (HR0.out.below hSW).tail.tail.head Tryz.underlying63 rfl (C.base.info Rc2.out))
 refine xT 2 inv (fun K hK=>?_)
 go_simp
 obtain ⟨n1,Hn1,HLn1⟩:=ym (K:=PP) ((x0*x3) % PP) (Nat.mod_lt _ (by decide))
 with_reducible refine ((C.mul Rc0.out Rc3.out) _).mono ?_
 rintro e vq2 ⟨cq2,rfl,rq2,hbq2⟩
 rw [Hn1.out] at rq2
 have Rq2:=yh rq2
 clear rq2
 have kbq2:=zaa hS hbq2
 clear hS hbq2
 refine hK.out _ _ (by exact kbq2) (fun inv hS=>?_)
 clear hK K
 refine xT 5 inv (fun K hK=>?_)
 go_simp
 obtain ⟨n3,Hn3,HLn3⟩:=ym (K:=PP) ((x1*x2) % PP) (Nat.mod_lt _ (by decide))
 with_reducible refine ((C.mul Rc1.out Rc2.out) _).mono ?_
 rintro e vq4 ⟨cq4,rfl,rq4,hbq4⟩
 rw [Hn3.out] at rq4
 have Rq4:=yh rq4
 clear rq4
 have kbq4:=zaa kbq2 hbq4
 clear hS hbq4
 refine hK.out _ _ (by exact kbq4) (fun inv hS=>?_)
 clear hK K
 refine xT 8 inv (fun K hK=>?_)
 go_simp
 obtain ⟨n5,Hn5,HLn5⟩:=ym (K:=PP) ((x3*x1) % PP) (Nat.mod_lt _ (by decide))
 with_reducible refine ((C.mul Rc3.out Rc1.out) _).mono ?_
 rintro e vq6 ⟨cq6,rfl,rq6,hbq6⟩
 rw [Hn5.out] at rq6
 have Rq6:=yh rq6
 clear rq6
 have kbq6:=zaa kbq4 hbq6
 clear hS hbq6
 refine hK.out _ _ (by exact kbq6) (fun inv hS=>?_)
 clear hK K
 refine xT 11 inv (fun K hK=>?_)
 go_simp
 obtain ⟨n7,Hn7,HLn7⟩:=ym (K:=PP) ((x0*x2) % PP) (Nat.mod_lt _ (by decide))
 with_reducible refine ((C.mul Rc0.out Rc2.out) _).mono ?_
 rintro e vq8 ⟨cq8,rfl,rq8,hbq8⟩
 rw [Hn7.out] at rq8
 have Rq8:=yh rq8
 clear rq8
 have kbq8:=zaa kbq6 hbq8
 clear hS hbq8
 refine hK.out _ _ (by exact kbq8) (fun inv hS=>?_)
 clear hK K
 refine' yT 12 hT inv hS (fun inv=>?_) (hy:=fun W hSW=>run_buildF4 rfl rfl rfl rfl rfl (fe5 C.base Rq2.out) (fe5 C.base Rq4.out) (fe5 C.base Rq6.out) (fe5 C.base Rq8.out))
 refine zaD (by kernel_rfl) ?_
 simp only [List.drop_succ_cons,List.drop_zero]
 clear hS
 (try simp only [Act.put])
 have HRq9:=yh (HR0.out.below kbq8)
 have HBq9:=yh (zaa HB0.out kbq8)
 have lsq10:=HRq9.out.head
 have HRq10:Hid (RowsW (vq8.setRow (g0+1+1+1+1) (quad cq2 cq4 cq6 cq8)) [((g0+1+1+1+1),(quad cq2 cq4 cq6 cq8),65),((g0+1+1+1),c3,63),((g0+1+1),c2,63),((g0+1),c1,63),(g0,c0,63)]):=yh ⟨setRow_heap _ _ _ _ _ _ lsq10,(by rw [setRow_other _ _ _ _ (by omega)];exact HRq9.out.tail.head),(by rw [setRow_other _ _ _ _ (by omega)];exact HRq9.out.tail.tail.head),(by rw [setRow_other _ _ _ _ (by omega)];exact HRq9.out.tail.tail.tail.head),(by rw [setRow_other _ _ _ _ (by omega)];exact HRq9.out.tail.tail.tail.tail.head),trivial⟩
 have HBq10:=yh (zac (g:=(g0+1+1+1+1)) (cs:=(quad cq2 cq4 cq6 cq8)) HBq9.out (by have:=HG0.out;omega))
 go_wp2_with (refine yj (quad cq2 cq4 cq6 cq8) lsq10 (zat C.base Rq2.out Rq4.out Rq6.out Rq8.out) ((zas C.base RZZ.out RZZ.out RZZ.out RZZ.out).trans (zas C.base Rq2.out Rq4.out Rq6.out Rq8.out).symm) (pp_one C.base Rq2.out Rq4.out Rq6.out Rq8.out) ?_)
 obtain ⟨Wq10,hWq10⟩:∃ W,vq8.setRow (g0+1+1+1+1) (quad cq2 cq4 cq6 cq8)=W:=⟨_,rfl⟩
 rw [hWq10] at HRq10 HBq10
 (try rw [hWq10])
 clear hWq10 lsq10
 refine NoPanic.normal ?_
 go_wp2_with fail
 (try simp only [Exit.inBlock,Exit.then])
 refine bodyPost_ret (results_cell_row rfl _ _ (g0+1+1+1+1) _ (quad cq2 cq4 cq6 cq8) _ _ rfl HRq10.out.head Tryz.underlying65 rfl (zat C.base Rq2.out Rq4.out Rq6.out Rq8.out)) rfl ?_
 exact ⟨_,_,_,_,rfl,by rw [Hn1.out];exact Rq2.out,by rw [Hn3.out];exact Rq4.out,by rw [Hn5.out];exact Rq6.out,by rw [Hn7.out];exact Rq8.out,HBq10.out⟩
theorem ptneg_any {R:Array Value→Nat→Prop} (C:FeC R) {a1 b1 d1 f1:Array Value} {X1 Y1 Z1 T1:Nat} {p1:PtD} (ha1:R a1 X1) (hb1:R b1 Y1) (hd1:R d1 Z1) (hf1:R f1 T1) (hP1:Pq X1 Y1 Z1 T1 p1) (w:World):Calls Tryz.prog 38 #[.agg (quad a1 b1 d1 f1)] w (RetPt (ptRof R) w (Ed.Pt.neg p1)):=by
 have Ra1:=yh ha1
 have Rb1:=yh hb1
 have Rd1:=yh hd1
 have Rf1:=yh hf1
 clear ha1 hb1 hd1 hf1
 have LX1:Hid (X1<PP):=yh (C.base.lt Ra1.out)
 have LY1:Hid (Y1<PP):=yh (C.base.lt Rb1.out)
 have LZ1:Hid (Z1<PP):=yh (C.base.lt Rd1.out)
 have LT1:Hid (T1<PP):=yh (C.base.lt Rf1.out)
 have HP1:=yh hP1
 clear hP1
 obtain ⟨Z,hZ,rZ⟩:=C.base.zero
 have RZZ:=yh rZ
 have hzP:=zp_of hZ
 have hz32:=zaq
 clear rZ
 have HR0:=yh (((RowsW.nil w).box (quad a1 b1 d1 f1) 65).box (quad Z Z Z Z) 65)
 have HB0:=yh (zae (zae (Below.refl w.heap.size w) (quad a1 b1 d1 f1) 65) (quad Z Z Z Z) 65)
 rw [World.size_alloc] at HR0
 go_enter Tryz.func38,Tryz.ntmps38
 go_upto_region 1 with fail
 obtain ⟨W0,hW0⟩:∃ W,((w.alloc (.cells (quad a1 b1 d1 f1) 65)).alloc (.cells (quad Z Z Z Z) 65))=W:=⟨_,rfl⟩
 obtain ⟨g0,hg0⟩:∃ g,w.heap.size=g:=⟨_,rfl⟩
 rw [hW0] at HR0 HB0
 rw [hg0] at HR0
 rw [hW0,hg0]
 have HG0:=yh hg0
 clear hW0 hg0
 refine wp_region_noPanic ?_
 refine zah (S:=fun W=>Below W0.heap.size W0 W) 11 (by kernel_rfl) ⟨by kernel_rfl,by kernel_rfl,by kernel_rfl,by kernel_rfl⟩ (by exact (Below.refl _ _).drew) (fun hT inv hS=>?_)
 refine' yT 0 hT inv hS (fun inv=>?_)
 refine' yT 1 hT inv hS (fun inv=>?_) (hy:=fun W hSW=>zal rfl rfl (HR0.out.below hSW).tail.head Tryz.underlying63 rfl (C.base.info Ra1.out) pp_0)
 refine' yT 3 hT inv hS (fun inv=>?_)
 refine' yT 4 hT inv hS (fun inv=>?_) (hy:=fun W hSW=>zal rfl rfl (HR0.out.below hSW).tail.head Tryz.underlying63 rfl (C.base.info Rb1.out) (pp_1 (fe5 C.base Ra1.out)))
 refine' yT 5 hT inv hS (fun inv=>?_)
 refine' yT 6 hT inv hS (fun inv=>?_) (hy:=fun W hSW=>zal rfl rfl (HR0.out.below hSW).tail.head Tryz.underlying63 rfl (C.base.info Rd1.out) (pp_2 (fe5 C.base Ra1.out) (fe5 C.base Rb1.out)))
 refine' yT 7 hT inv hS (fun inv=>?_)
 refine' yT 8 hT inv hS (fun inv=>?_) (hy:=fun W hSW=>zal rfl rfl (HR0.out.below hSW).tail.head Tryz.underlying63 rfl (C.base.info Rf1.out) (pp_3 (fe5 C.base Ra1.out) (fe5 C.base Rb1.out) (fe5 C.base Rd1.out)))
 refine xT 2 inv (fun K hK=>?_)
 go_simp
 obtain ⟨n1,Hn1,HLn1⟩:=ym (K:=PP) ((PP-X1) % PP) (Nat.mod_lt _ (by decide))
 with_reducible refine ((C.neg Ra1.out) _).mono ?_
 rintro e vq2 ⟨cq2,rfl,rq2,hbq2⟩
 rw [Hn1.out] at rq2
 have Rq2:=yh rq2
 clear rq2
 have kbq2:=zaa hS hbq2
 clear hS hbq2
 refine hK.out _ _ (by exact kbq2) (fun inv hS=>?_)
 clear hK K
 refine xT 9 inv (fun K hK=>?_)
 go_simp
 obtain ⟨n3,Hn3,HLn3⟩:=ym (K:=PP) ((PP-T1) % PP) (Nat.mod_lt _ (by decide))
 with_reducible refine ((C.neg Rf1.out) _).mono ?_
 rintro e vq4 ⟨cq4,rfl,rq4,hbq4⟩
 rw [Hn3.out] at rq4
 have Rq4:=yh rq4
 clear rq4
 have kbq4:=zaa kbq2 hbq4
 clear hS hbq4
 refine hK.out _ _ (by exact kbq4) (fun inv hS=>?_)
 clear hK K
 refine' yT 10 hT inv hS (fun inv=>?_) (hy:=fun W hSW=>run_buildF4 rfl rfl rfl rfl rfl (fe5 C.base Rq2.out) (fe5 C.base Rb1.out) (fe5 C.base Rd1.out) (fe5 C.base Rq4.out))
 refine zaD (by kernel_rfl) ?_
 simp only [List.drop_succ_cons,List.drop_zero]
 clear hS
 (try simp only [Act.put])
 have HRq5:=yh (HR0.out.below kbq4)
 have HBq5:=yh (zaa HB0.out kbq4)
 have lsq6:=HRq5.out.head
 have HRq6:Hid (RowsW (vq4.setRow (g0+1) (quad cq2 b1 d1 cq4)) [((g0+1),(quad cq2 b1 d1 cq4),65),(g0,(quad a1 b1 d1 f1),65)]):=yh ⟨setRow_heap _ _ _ _ _ _ lsq6,(by rw [setRow_other _ _ _ _ (by omega)];exact HRq5.out.tail.head),trivial⟩
 have HBq6:=yh (zac (g:=(g0+1)) (cs:=(quad cq2 b1 d1 cq4)) HBq5.out (by have:=HG0.out;omega))
 go_wp2_with (refine yj (quad cq2 b1 d1 cq4) lsq6 (zat C.base Rq2.out Rb1.out Rd1.out Rq4.out) ((zas C.base RZZ.out RZZ.out RZZ.out RZZ.out).trans (zas C.base Rq2.out Rb1.out Rd1.out Rq4.out).symm) (pp_one C.base Rq2.out Rb1.out Rd1.out Rq4.out) ?_)
 obtain ⟨Wq6,hWq6⟩:∃ W,vq4.setRow (g0+1) (quad cq2 b1 d1 cq4)=W:=⟨_,rfl⟩
 rw [hWq6] at HRq6 HBq6
 (try rw [hWq6])
 clear hWq6 lsq6
 refine NoPanic.normal ?_
 go_wp2_with fail
 (try simp only [Exit.inBlock,Exit.then])
 refine bodyPost_ret (results_cell_row rfl _ _ (g0+1) _ (quad cq2 b1 d1 cq4) _ _ rfl HRq6.out.head Tryz.underlying65 rfl (zat C.base Rq2.out Rb1.out Rd1.out Rq4.out)) rfl ?_
 exact ⟨_,rfl,⟨_,_,_,_,_,_,_,_,rfl,Rq2.out,Rb1.out,Rd1.out,Rq4.out,by rw [← Hn1.out,← Hn3.out];exact pq_neg HP1.out⟩,HBq6.out⟩
section
variable {P:Program} {ops:Array Oper} {Q:Exit→Act→World→Prop} {md:Region.Mode} {w0:World} {A p B q:Nat} {T T':TypeId} {Z Z':Array Value}
def lst2 (A:Nat) (o:Option Nat) (l:Array Bool):Array Bool:=match o with | none=>l | some _=>l.setIfInBounds A true
def act2 (p:Nat) (o:Option Nat) (a:Act):Act:=match o with | none=>a | some g=>a.put (some p) (.pointer (some ⟨g,0,none⟩))
def fu2 (o:Option Nat):Nat:=match o with | none=>1 | some _=>0
structure HB2 (w0:World) (T:TypeId) (Z:Array Value) (T':TypeId) (Z':Array Value) (o o':Option Nat) (W:World):Prop where
 l:HB w0 T Z o W
 r:HB w0 T' Z' o' W
 ne:∀ g g',o=some g→o'=some g'→g≠g'
def XB2 (P:Program) (md:Region.Mode) (ops:Array Oper) (Q:Exit→Act→World→Prop) (w0:World) (A p B q:Nat) (o o':Option Nat) (f:Nat) (listed:Array Bool) (a:Act) (W:World):Prop :=
 wpAnyH P md ops Q (fun W=>Below w0.heap.size w0 W) (f+fu2 o+fu2 o') (lst2 B o' (lst2 A o listed)) (act2 q o' (act2 p o a)) W
structure AllocAt2 (P:Program) (ops:Array Oper) (Q:Exit→Act→World→Prop) (A p:Nat) (T:TypeId) (Z:Array Value) (B q:Nat) (T':TypeId) (Z':Array Value):Prop where
 l:AllocAt P ops Q A p T Z
 r:AllocAt P ops Q B q T' Z'
 ne:(A != B&&p != q)=true
theorem HB2.al {o':Option Nat} {W:World} (h:HB2 w0 T Z T' Z' none o' W):HB2 w0 T Z T' Z' (some W.heap.size) o' (W.alloc (.cells Z T)) :=
 ⟨h.l.al,h.r.next ((Below.refl _ W).alloc (Nat.le_refl _) _),fun g g' e e'=>by
  injection e with e;subst e
  have:=(Array.getElem?_eq_some_iff.1 (h.r.2 g' e').2).1
  omega⟩
theorem HB2.ar {o:Option Nat} {W:World} (h:HB2 w0 T Z T' Z' o none W):HB2 w0 T Z T' Z' o (some W.heap.size) (W.alloc (.cells Z' T')) :=
 ⟨h.l.next ((Below.refl _ W).alloc (Nat.le_refl _) _),h.r.al,fun g g' e e'=>by
  injection e' with e';subst e'
  have:=(Array.getElem?_eq_some_iff.1 (h.l.2 g e).2).1
  omega⟩
theorem HB2.next {o o':Option Nat} {W W':World} (h:HB2 w0 T Z T' Z' o o' W) (hb:Below W.heap.size W W'):HB2 w0 T Z T' Z' o o' W' :=
 ⟨h.l.next hb,h.r.next hb,h.ne⟩
theorem lst2_set (A i:Nat) (o:Option Nat) (l:Array Bool) (h:A≠i):lst2 A o (l.setIfInBounds i true)=(lst2 A o l).setIfInBounds i true:=by
 cases o with
 | none=>rfl
 | some g=>exact Array.setIfInBounds_comm _ _ (Ne.symm h)
theorem act2_put (p:Nat) (o:Option Nat) (a:Act) (d:Option Tmp) (v:Value) (h:some p≠d):act2 p o (a.put d v)=(act2 p o a).put d v:=by
 cases o with
 | none=>rfl
 | some g=>exact Act.put_comm (x:=d) (y:=some p) a v _ (fun x hx hy=>h (hy.trans hx.symm))
theorem AllocAt.get {A p:Nat} {T:TypeId} {Z:Array Value} (h:AllocAt P ops Q A p T Z):∃ oA,ops[A]?=some oA∧oA.op=.alloc T∧oA.dst=some p∧oA.guard=none:=by
 cases hq:ops[A]? with
 | none=>have:=h.at_;rw [hq] at this;cases this
 | some oA =>
  have e:=h.at_
  rw [hq] at e
  simp only [Option.map_some,Option.some.injEq,Prod.mk.injEq] at e
  exact ⟨oA,rfl,e.1,e.2.1,e.2.2⟩
theorem getD_set_true (l:Array Bool) (i:Nat):(l.setIfInBounds i true).getD i true=true:=by
 rw [Array.getD_eq_getD_getElem?,Array.getElem?_setIfInBounds,if_pos rfl]
 split <;> rfl
theorem ready_ne {l:Array Bool} {s:Nat} (hs:s ∈ Region.ready md ops ((l.setIfInBounds A true).setIfInBounds B true)) (hne:A≠B):s≠A∧s≠B:=by
 have h1:=(mem_ready.1 hs).1
 refine ⟨fun e=>?_,fun e=>?_⟩
 ·subst e
  rw [getD_set_ne true (Ne.symm hne),getD_set_true] at h1
  cases h1
 ·subst e
  rw [getD_set_true] at h1
  cases h1
theorem wp_region_heldB2 {id:Nat} {a:Act} {w:World} (A p:Nat) (T:TypeId) (Z:Array Value) (B q:Nat) (T':TypeId) (Z':Array Value) (hm:P.follows .mixedOrders=true) (h0:decide (1<ops.size)=true) (hA:AllocAt2 P ops Q A p T Z B q T' Z')
  (h:AllocAt2 P ops Q A p T Z B q T' Z'→HB2 w T Z T' Z' none none w.drew→XB2 P .any ops Q w A p B q none none (ops.size-2) (Array.replicate ops.size false) a w.drew):(Code.region id ops true).wp P Q a w:=by
 have hb:Below w.heap.size w w.drew:=(Below.refl _ _).drew
 have hn:=of_decide_eq_true h0
 refine wp_region_held (S:=fun W=>Below w.heap.size w W) hm ?_
 have:=h hA ⟨⟨hb,fun g e=>by cases e⟩,⟨hb,fun g e=>by cases e⟩,fun g g' e=>by cases e⟩
 have hk:(ops.size-2)+1+1=ops.size:=by omega
 simp only [XB2,fu2,lst2,act2] at this
 rw [hk] at this
 exact this
theorem act2_yields {A p:Nat} {T:TypeId} {Z:Array Value} {S:World→Prop} {oi:Oper} {v:Value} {a:Act} {o:Option Nat} (hsel:∀ cs b,oi.op≠.select cs b) (hn:p ∉ oi.looksAt ops)
  (hy:YieldsIf P ops S oi v a):YieldsIf P ops S oi v (act2 p o a):=by
 cases o with
 | none=>exact hy
 | some g =>
  have h1:∀ d,some p=some d→d ∉ oi.looksAt ops:=fun d hd=>by injection hd with hd;subst hd;exact hn
  exact hy.of_same (execOp_put _ hsel _ _ _ h1) (wanted_put _ _ _ _ h1)
theorem take_atB2 (i:Nat) {d:Nat} {op:Op} {ty:TypeId} {pos:String} {after:Array Edge} {guard:Option (Nat × Bool)} {v:Value} {f:Nat} {listed:Array Bool} {l l':List Value} {df:List Deferred} {o o':Option Nat} {W:World}
  (hA:AllocAt2 P ops Q A p T Z B q T' Z')
  (hi:ops[i]?=some ⟨some d,op,ty,pos,after,guard⟩)
  (hf:(Region.free md ops listed i&&Region.free md ops (listed.setIfInBounds A true) i&&Region.free md ops (listed.setIfInBounds B true) i&&Region.free md ops ((listed.setIfInBounds A true).setIfInBounds B true) i)=true)
  (hr:((Region.ready md ops listed).contains i&&(Region.ready md ops (listed.setIfInBounds A true)).contains i&&(Region.ready md ops (listed.setIfInBounds B true)).contains i&&(Region.ready md ops ((listed.setIfInBounds A true).setIfInBounds B true)).contains i)=true)
  (hap:(ops[A]?.map fun oA=>oA.apart ops ⟨some d,op,ty,pos,after,guard⟩)=some true) (hbp:(ops[B]?.map fun oA=>oA.apart ops ⟨some d,op,ty,pos,after,guard⟩)=some true) (hAi:(A != i&&B != i)=true)
  (hw:Region.wanted ⟨some d,op,ty,pos,after,guard⟩ (yielded ops l.toArray)=true) (hS:HB2 w0 T Z T' Z' o o' W)
  (hy:∀ W,Below w0.heap.size w0 W→(execOp (Act.eval ⟨l.toArray,df⟩) ⟨some d,op,ty,pos,after,guard⟩).run P W=.ok (.value v) W)
  (hl:l.set d v=l')
  (h:XB2 P md ops Q w0 A p B q o o' f (listed.setIfInBounds i true) ⟨l'.toArray,df⟩ W):XB2 P md ops Q w0 A p B q o o' (f+1) listed ⟨l.toArray,df⟩ W:=by
 have hp:∀ (c:List PanicEntry) (a:Act) (w:World),Q (.panic c) (a.put (some d) v) w→Q (.panic c) a w:=fun c a w h=>(hA.l.q _ _ _ h).elim
 obtain ⟨oA,hoA,a1,a2,a3⟩:=hA.l.get
 obtain ⟨oB,hoB,b1,b2,b3⟩:=hA.r.get
 rw [hoA] at hap
 rw [hoB] at hbp
 simp only [Option.map_some,Option.some.injEq] at hap hbp
 obtain ⟨h1,h2,h3⟩:=Oper.apart_spec hap
 obtain ⟨k1,k2,k3⟩:=Oper.apart_spec hbp
 rw [a2] at h1 h2
 rw [b2] at k1 k2
 simp only [Bool.and_eq_true,bne_iff_ne] at hf hr hAi
 have hsel:=Region.noSelect_spec hA.l.sel
 subst hl
 unfold XB2 at *
 have ea:act2 q o' (act2 p o ⟨(l.set d v).toArray,df⟩)=(act2 q o' (act2 p o ⟨l.toArray,df⟩)).put (some d) v:=by
  have e0:(⟨(l.set d v).toArray,df⟩:Act)=(⟨l.toArray,df⟩:Act).put (some d) v:=by simp [Act.put]
  rw [e0,act2_put p o _ _ _ (fun e=>h2 p rfl e.symm),act2_put q o' _ _ _ (fun e=>k2 q rfl e.symm)]
 rw [ea,lst2_set A i o listed hAi.1,lst2_set B i o' _ hAi.2] at h
 rw [show f+1+fu2 o+fu2 o'=(f+fu2 o+fu2 o')+1 by omega]
 have hy0:YieldsIf P ops (fun W=>Below w0.heap.size w0 W) ⟨some d,op,ty,pos,after,guard⟩ v ⟨l.toArray,df⟩:=.inl ⟨hw,hy⟩
 have hy1:=act2_yields (A:=A) (T:=T) (Z:=Z) (p:=p) (o:=o) (fun cs b=>hsel i _ cs b hi) (h1 p rfl) hy0
 have hy2:=act2_yields (A:=B) (T:=T) (Z:=Z) (p:=q) (o:=o') (fun cs b=>hsel i _ cs b hi) (k1 q rfl) hy1
 refine wpAnyH_take hi hA.l.sel ?_ ?_ hp hy2 hS.l.1 h
 ·cases o <;> cases o'
  ·exact hf.1.1.1
  ·exact hf.1.2
  ·exact hf.1.1.2
  ·exact hf.2
 ·cases o <;> cases o'
  ·exact hr.1.1.1
  ·exact hr.1.2
  ·exact hr.1.1.2
  ·exact hr.2
theorem yC (i:Nat) {d:Nat} {op:Op} {ty:TypeId} {pos:String} {after:Array Edge} {guard:Option (Nat × Bool)} {v:Value} {f:Nat} {listed:Array Bool} {l l':List Value} {df:List Deferred} {o o':Option Nat} {W:World}
  (hA:AllocAt2 P ops Q A p T Z B q T' Z') (hS:HB2 w0 T Z T' Z' o o' W) (h:XB2 P md ops Q w0 A p B q o o' f (listed.setIfInBounds i true) ⟨l'.toArray,df⟩ W)
  (hi:ops[i]?=some ⟨some d,op,ty,pos,after,guard⟩:=by rfl) (hf:(Region.free md ops listed i&&Region.free md ops (listed.setIfInBounds A true) i&&Region.free md ops (listed.setIfInBounds B true) i&&Region.free md ops ((listed.setIfInBounds A true).setIfInBounds B true) i)=true:=by kernel_rfl) (hr:((Region.ready md ops listed).contains i&&(Region.ready md ops (listed.setIfInBounds A true)).contains i&&(Region.ready md ops (listed.setIfInBounds B true)).contains i&&(Region.ready md ops ((listed.setIfInBounds A true).setIfInBounds B true)).contains i)=true:=by kernel_rfl) (hap:(ops[A]?.map fun oA=>oA.apart ops ⟨some d,op,ty,pos,after,guard⟩)=some true:=by kernel_rfl) (hbp:(ops[B]?.map fun oA=>oA.apart ops ⟨some d,op,ty,pos,after,guard⟩)=some true:=by kernel_rfl) (hAi:(A != i&&B != i)=true:=by rfl) (hw:Region.wanted ⟨some d,op,ty,pos,after,guard⟩ (yielded ops l.toArray)=true:=by rfl) (hy:∀ W,Below w0.heap.size w0 W→(execOp (Act.eval ⟨l.toArray,df⟩) ⟨some d,op,ty,pos,after,guard⟩).run P W=.ok (.value v) W:=by intro X hSX;go_simp;try with_reducible rfl) (hl:l.set d v=l':=by simp only [List.set_cons_succ,List.set_cons_zero];rfl):XB2 P md ops Q w0 A p B q o o' (f+1) listed ⟨l.toArray,df⟩ W :=
 take_atB2 i hA hi hf hr hap hbp hAi hw hS hy hl h
theorem allocs_atB2 {f:Nat} {listed:Array Bool} {a:Act} (hA:AllocAt2 P ops Q A p T Z B q T' Z')
  (i:Nat) (good:∀ o o' W,HB2 w0 T Z T' Z' o o' W→i ∈ Region.ready md ops (lst2 B o' (lst2 A o listed))→wpOp P ops Q i (fun a' w'=>Below w0.heap.size w0 w'∧wpAnyH P md ops Q (fun W=>Below w0.heap.size w0 W) (f+fu2 o+fu2 o') ((lst2 B o' (lst2 A o listed)).setIfInBounds i true) a' w') (act2 q o' (act2 p o a)) W)
  (r0:((Region.ready md ops listed).all fun j=>j == i||j == A||j == B)=true) (r1:((Region.ready md ops (listed.setIfInBounds A true)).all fun j=>j == i||j == B)=true)
  (r2:((Region.ready md ops (listed.setIfInBounds B true)).all fun j=>j == i||j == A)=true) (r3:Region.ready md ops ((listed.setIfInBounds A true).setIfInBounds B true)=[i])
  (e0:((Region.ready md ops listed).isEmpty||(Region.ready md ops (listed.setIfInBounds A true)).isEmpty||(Region.ready md ops (listed.setIfInBounds B true)).isEmpty)=false) :
  ∀ o o' W,HB2 w0 T Z T' Z' o o' W→XB2 P md ops Q w0 A p B q o o' (f+1) listed a W:=by
 obtain ⟨oA,hoA,a1,a2,a3⟩:=hA.l.get
 obtain ⟨oB,hoB,b1,b2,b3⟩:=hA.r.get
 have hne:=hA.ne
 simp only [Bool.and_eq_true,bne_iff_ne] at hne
 simp only [Bool.or_eq_false_iff] at e0
 have hwA:∀ a:Act,Region.wanted oA (yielded ops a.tmps)=true:=fun a=>by unfold Region.wanted;rw [a3]
 have hwB:∀ a:Act,Region.wanted oB (yielded ops a.tmps)=true:=fun a=>by unfold Region.wanted;rw [b3]
 have goA:∀ o' W,HB2 w0 T Z T' Z' none o' W→XB2 P md ops Q w0 A p B q (some W.heap.size) o' (f+1) listed a (W.alloc (.cells Z T)) →
   wpOp P ops Q A (fun a' w'=>Below w0.heap.size w0 w'∧wpAnyH P md ops Q (fun W=>Below w0.heap.size w0 W) (f+1+fu2 o') ((lst2 B o' listed).setIfInBounds A true) a' w') (act2 q o' a) W:=fun o' W hS hX=>by
  refine wpOp_step hoA fun K' hK=>?_
  rw [if_pos (hwA _)]
  unfold Oper.wp
  rw [zaO a1 hA.l.run]
  refine hK _ _ ⟨hS.al.l.1,?_⟩
  unfold XB2 at hX
  rw [show lst2 A (some W.heap.size) listed=listed.setIfInBounds A true from rfl,lst2_set B A o' _ (Ne.symm hne.1),show act2 p (some W.heap.size) a=a.put (some p) (.pointer (some ⟨W.heap.size,0,none⟩)) from rfl,act2_put q o' _ _ _ (fun e=>hne.2 (by injection e with e;exact e.symm))] at hX
  rw [a2]
  exact hX
 have goB:∀ o W,HB2 w0 T Z T' Z' o none W→XB2 P md ops Q w0 A p B q o (some W.heap.size) (f+1) listed a (W.alloc (.cells Z' T')) →
   wpOp P ops Q B (fun a' w'=>Below w0.heap.size w0 w'∧wpAnyH P md ops Q (fun W=>Below w0.heap.size w0 W) (f+1+fu2 o) ((lst2 A o listed).setIfInBounds B true) a' w') (act2 p o a) W:=fun o W hS hX=>by
  refine wpOp_step hoB fun K' hK=>?_
  rw [if_pos (hwB _)]
  unfold Oper.wp
  rw [zaO b1 hA.r.run]
  refine hK _ _ ⟨hS.ar.l.1,?_⟩
  rw [b2]
  exact hX
 have ss:∀ g g' W,HB2 w0 T Z T' Z' (some g) (some g') W→XB2 P md ops Q w0 A p B q (some g) (some g') (f+1) listed a W:=fun g g' W hS=>by
  unfold XB2
  show wpAnyH P md ops Q _ (f+1) ((listed.setIfInBounds A true).setIfInBounds B true) _ W
  refine wpAnyH_all r3 (by simp) fun j hj=>?_
  have hji:j=i:=by simpa using hj
  subst hji
  exact good (some g) (some g') W hS (by show j ∈ Region.ready md ops ((listed.setIfInBounds A true).setIfInBounds B true);rw [r3];exact hj)
 have sn:∀ g W,HB2 w0 T Z T' Z' (some g) none W→XB2 P md ops Q w0 A p B q (some g) none (f+1) listed a W:=fun g W hS=>by
  unfold XB2
  show wpAnyH P md ops Q _ (f+1+1) (listed.setIfInBounds A true) _ W
  refine wpAnyH_all rfl (by intro e;rw [e] at e0;exact absurd e0.1.2 (by simp)) fun j hj=>?_
  have hj2:=List.all_eq_true.1 r1 j hj
  simp only [Bool.or_eq_true,beq_iff_eq] at hj2
  rcases hj2 with rfl | rfl
  ·exact good (some g) none W hS hj
  ·exact goB (some g) W hS (ss g _ _ hS.ar)
 have ns:∀ g W,HB2 w0 T Z T' Z' none (some g) W→XB2 P md ops Q w0 A p B q none (some g) (f+1) listed a W:=fun g W hS=>by
  unfold XB2
  show wpAnyH P md ops Q _ (f+1+1) (listed.setIfInBounds B true) _ W
  refine wpAnyH_all rfl (by intro e;rw [e] at e0;exact absurd e0.2 (by simp)) fun j hj=>?_
  have hj2:=List.all_eq_true.1 r2 j hj
  simp only [Bool.or_eq_true,beq_iff_eq] at hj2
  rcases hj2 with rfl | rfl
  ·exact good none (some g) W hS hj
  ·exact goA (some g) W hS (ss _ g _ hS.al)
 intro o o' W hS
 cases o with
 | some g =>
  cases o' with
  | some g'=>exact ss g g' W hS
  | none=>exact sn g W hS
 | none =>
  cases o' with
  | some g'=>exact ns g' W hS
  | none =>
   unfold XB2
   show wpAnyH P md ops Q _ (f+1+1+1) listed _ W
   refine wpAnyH_all rfl (by intro e;rw [e] at e0;exact absurd e0.1.1 (by simp)) fun j hj=>?_
   have hj2:=List.all_eq_true.1 r0 j hj
   simp only [Bool.or_eq_true,beq_iff_eq] at hj2
   rcases hj2 with (rfl | rfl) | rfl
   ·exact good none none W hS hj
   ·exact goA none W hS (sn _ _ hS.al)
   ·exact goB none W hS (ns _ _ hS.ar)
theorem call_atB2 (i:Nat) {d:Option Tmp} {op:Op} {ty:TypeId} {pos:String} {after:Array Edge} {guard:Option (Nat × Bool)} {f:Nat} {listed:Array Bool} {a:Act} {o o':Option Nat} {W:World}
  (hA:AllocAt2 P ops Q A p T Z B q T' Z')
  (hi:ops[i]?=some ⟨d,op,ty,pos,after,guard⟩)
  (r0:((Region.ready md ops listed).all fun j=>j == i||j == A||j == B)=true) (r1:((Region.ready md ops (listed.setIfInBounds A true)).all fun j=>j == i||j == B)=true)
  (r2:((Region.ready md ops (listed.setIfInBounds B true)).all fun j=>j == i||j == A)=true) (r3:Region.ready md ops ((listed.setIfInBounds A true).setIfInBounds B true)=[i])
  (e0:((Region.ready md ops listed).isEmpty||(Region.ready md ops (listed.setIfInBounds A true)).isEmpty||(Region.ready md ops (listed.setIfInBounds B true)).isEmpty)=false)
  (hap:(ops[A]?.map fun oA=>oA.apart ops ⟨d,op,ty,pos,after,guard⟩)=some true) (hbp:(ops[B]?.map fun oA=>oA.apart ops ⟨d,op,ty,pos,after,guard⟩)=some true) (hAi:(A != i&&B != i)=true)
  (hw:Region.wanted ⟨d,op,ty,pos,after,guard⟩ (yielded ops a.tmps)=true) (hS:HB2 w0 T Z T' Z' o o' W)
  (h:∀ (o o':Option Nat) (W:World),HB2 w0 T Z T' Z' o o' W→∀ K':Act→World→Prop,
   Shut (∀ a' W',Below W.heap.size W W'→(HB2 w0 T Z T' Z' o o' W'→XB2 P md ops Q w0 A p B q o o' f (listed.setIfInBounds i true) a' W')→K' a' W')→Oper.wp P ⟨d,op,ty,pos,after,guard⟩ a W K' Q) :
  XB2 P md ops Q w0 A p B q o o' (f+1) listed a W:=by
 obtain ⟨oA,hoA,a1,a2,a3⟩:=hA.l.get
 obtain ⟨oB,hoB,b1,b2,b3⟩:=hA.r.get
 rw [hoA] at hap
 rw [hoB] at hbp
 simp only [Option.map_some,Option.some.injEq] at hap hbp
 obtain ⟨h1,h2,h3⟩:=Oper.apart_spec hap
 obtain ⟨k1,k2,k3⟩:=Oper.apart_spec hbp
 rw [a2] at h1 h2
 rw [b2] at k1 k2
 simp only [Bool.and_eq_true,bne_iff_ne] at hAi
 have hsel:=Region.noSelect_spec hA.l.sel
 have eA:∀ v:Value,(fun (a:Act)=>a.put oA.dst v)=fun a=>a.put (some p) v:=fun v=>by rw [a2]
 refine allocs_atB2 hA i (fun o o' W hS _=>?_) r0 r1 r2 r3 e0 o o' W hS
 refine wpOp_step hi fun K' hK=>?_
 have hwp:Region.wanted ⟨d,op,ty,pos,after,guard⟩ (yielded ops (act2 q o' (act2 p o a)).tmps)=true:=by
  have e1:Region.wanted ⟨d,op,ty,pos,after,guard⟩ (yielded ops (act2 p o a).tmps)=true:=by
   cases o with
   | none=>exact hw
   | some g=>rw [show act2 p (some g) a=a.put (some p) (.pointer (some ⟨g,0,none⟩)) from rfl,wanted_put _ a _ _ h1];exact hw
  cases o' with
  | none=>exact e1
  | some g=>rw [show act2 q (some g) (act2 p o a)=(act2 p o a).put (some q) (.pointer (some ⟨g,0,none⟩)) from rfl,wanted_put _ _ _ _ k1];exact e1
 rw [if_pos hwp]
 have hx:=h o o' W hS (fun a' W'=>K' (act2 q o' (act2 p o a')) W') (fun a' W' hb hX=>hK _ _ ⟨(hS.next hb).l.1,by
  have hX':=hX (hS.next hb)
  unfold XB2 at hX'
  rw [lst2_set A i o listed hAi.1,lst2_set B i o' _ hAi.2] at hX'
  exact hX'⟩)
 have s1:Oper.wp P ⟨d,op,ty,pos,after,guard⟩ (act2 p o a) W (fun a' W'=>K' (act2 q o' a') W') Q:=by
  cases o with
  | none=>exact hx
  | some g =>
   have:=Oper.wp_put' (x:=oA) (o:=⟨d,op,ty,pos,after,guard⟩) (v:=.pointer (some ⟨g,0,none⟩)) (a:=a) (w:=W) (K:=fun a' W'=>K' (act2 q o' a') W') (Q:=Q) hap (fun cs b=>hsel i _ cs b hi) hA.l.q (by rw [a2];exact hx)
   rwa [a2] at this
 cases o' with
 | none=>exact s1
 | some g =>
  have:=Oper.wp_put' (x:=oB) (o:=⟨d,op,ty,pos,after,guard⟩) (v:=.pointer (some ⟨g,0,none⟩)) (a:=act2 p o a) (w:=W) (K:=K') (Q:=Q) hbp (fun cs b=>hsel i _ cs b hi) hA.r.q (by rw [b2];exact s1)
  rwa [b2] at this
theorem xC (i:Nat) {d:Option Tmp} {op:Op} {ty:TypeId} {pos:String} {after:Array Edge} {guard:Option (Nat × Bool)} {f:Nat} {listed:Array Bool} {a:Act} {o o':Option Nat} {W:World}
  (hA:AllocAt2 P ops Q A p T Z B q T' Z') (hS:HB2 w0 T Z T' Z' o o' W) (h:∀ (o o':Option Nat) (W:World),HB2 w0 T Z T' Z' o o' W→∀ K':Act→World→Prop,
   Shut (∀ a' W',Below W.heap.size W W'→(HB2 w0 T Z T' Z' o o' W'→XB2 P md ops Q w0 A p B q o o' f (listed.setIfInBounds i true) a' W')→K' a' W')→Oper.wp P ⟨d,op,ty,pos,after,guard⟩ a W K' Q)
  (hi:ops[i]?=some ⟨d,op,ty,pos,after,guard⟩:=by rfl) (r0:((Region.ready md ops listed).all fun j=>j == i||j == A||j == B)=true:=by kernel_rfl) (r1:((Region.ready md ops (listed.setIfInBounds A true)).all fun j=>j == i||j == B)=true:=by kernel_rfl) (r2:((Region.ready md ops (listed.setIfInBounds B true)).all fun j=>j == i||j == A)=true:=by kernel_rfl) (r3:Region.ready md ops ((listed.setIfInBounds A true).setIfInBounds B true)=[i]:=by kernel_rfl) (e0:((Region.ready md ops listed).isEmpty||(Region.ready md ops (listed.setIfInBounds A true)).isEmpty||(Region.ready md ops (listed.setIfInBounds B true)).isEmpty)=false:=by kernel_rfl) (hap:(ops[A]?.map fun oA=>oA.apart ops ⟨d,op,ty,pos,after,guard⟩)=some true:=by kernel_rfl) (hbp:(ops[B]?.map fun oA=>oA.apart ops ⟨d,op,ty,pos,after,guard⟩)=some true:=by kernel_rfl) (hAi:(A != i&&B != i)=true:=by rfl) (hw:Region.wanted ⟨d,op,ty,pos,after,guard⟩ (yielded ops a.tmps)=true:=by rfl):XB2 P md ops Q w0 A p B q o o' (f+1) listed a W :=
 call_atB2 i hA hi r0 r1 r2 r3 e0 hap hbp hAi hw hS h
theorem both_atB2 (s:Nat) {f:Nat} {listed:Array Bool} {l:List Value} {l':Nat→Nat→List Value} {df:List Deferred} {o o':Option Nat} {W:World}
  (hA:AllocAt2 P ops Q A p T Z B q T' Z')
  (r0:((Region.ready md ops listed).all fun j=>j == A||j == B)=true) (r1:((Region.ready md ops (listed.setIfInBounds A true)).all fun j=>j == B)=true)
  (r2:((Region.ready md ops (listed.setIfInBounds B true)).all fun j=>j == A)=true) (r3:Region.ready md ops ((listed.setIfInBounds A true).setIfInBounds B true)=[s])
  (e0:((Region.ready md ops listed).isEmpty||(Region.ready md ops (listed.setIfInBounds A true)).isEmpty||(Region.ready md ops (listed.setIfInBounds B true)).isEmpty)=false)
  (hS:HB2 w0 T Z T' Z' o o' W)
  (hl:∀ g g',(l.set p (.pointer (some ⟨g,0,none⟩))).set q (.pointer (some ⟨g',0,none⟩))=l' g g')
  (h:∀ g g' W',w0.heap.size≤g→w0.heap.size≤g'→g≠g'→Below w0.heap.size w0 W'→W'.heap[g]?=some (.cells Z T (0,0))→W'.heap[g']?=some (.cells Z' T' (0,0)) →
   wpAnyH P md ops Q (fun W=>Below w0.heap.size w0 W) (f+1) ((listed.setIfInBounds A true).setIfInBounds B true) ⟨(l' g g').toArray,df⟩ W') :
  XB2 P md ops Q w0 A p B q o o' (f+1) listed ⟨l.toArray,df⟩ W:=by
 have hne:=hA.ne
 simp only [Bool.and_eq_true,bne_iff_ne] at hne
 obtain ⟨n1,n2⟩:=ready_ne (l:=listed) (s:=s) (A:=A) (B:=B) (md:=md) (ops:=ops) (by rw [r3];simp) hne.1
 refine allocs_atB2 hA s (fun o o' W hS hj=>?_) ?_ ?_ ?_ r3 e0 o o' W hS
 ·cases o with
  | none =>
   exfalso
   cases o' with
   | none =>
    have:=List.all_eq_true.1 r0 s hj
    simp only [Bool.or_eq_true,beq_iff_eq] at this
    exact this.elim n1 n2
   | some g' =>
    have:=List.all_eq_true.1 r2 s hj
    simp only [beq_iff_eq] at this
    exact n1 this
  | some g =>
   cases o' with
   | none =>
    exfalso
    have:=List.all_eq_true.1 r1 s hj
    simp only [beq_iff_eq] at this
    exact n2 this
   | some g' =>
    have:=h g g' W (hS.l.2 g rfl).1 (hS.r.2 g' rfl).1 (hS.ne g g' rfl rfl) hS.l.1 (hS.l.2 g rfl).2 (hS.r.2 g' rfl).2
    rw [← hl g g'] at this
    have k:=this.2 s hj
    simpa [Act.put,act2,fu2,lst2] using k
 ·refine List.all_eq_true.2 fun j hj=>?_
  have:=List.all_eq_true.1 r0 j hj
  simp only [Bool.or_eq_true] at this ⊢
  exact this.elim (fun h=>.inl (.inr h)) .inr
 ·refine List.all_eq_true.2 fun j hj=>?_
  have:=List.all_eq_true.1 r1 j hj
  rw [this,Bool.or_true]
 ·refine List.all_eq_true.2 fun j hj=>?_
  have:=List.all_eq_true.1 r2 j hj
  rw [this,Bool.or_true]
end
end Go.Proofs.YtkgodlcnoenmbaaGreat
