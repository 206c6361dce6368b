/-
  A part of what the proof of EdLong rests on: plain lemmas and contracts of the functions that it calls. No conditions but what each theorem states.
-/
import Derived.Test.YtkgodlcnoenmbaaGreatEdLongK2
import Derived.Deep.QuietTactic
import Derived.BigQuiet
import Derived.Laws.BitsAllLaws
namespace Go.Proofs.YtkgodlcnoenmbaaGreat
open Go.RowKit
set_option linter.unusedVariables false
set_option maxRecDepth 100000
set_option maxHeartbeats 6400000
theorem or_high (p z k:Nat) (hp:p<2^k) (hp2:p<18446744073709551616) (hm:2^k*z<18446744073709551616):bits .or .u64 ((2^k*z:Nat):Int) (p:Int)=((p+2^k*z:Nat):Int):=by
 rw [u64_or_nat (2^k*z) p hm hp2,← Nat.two_pow_add_eq_or_of_lt hp,Nat.add_comm]
theorem and60 (n:Nat) (h:n<18446744073709551616):bits .and .u64 (n:Int) 1152921504606846975=((n % 1152921504606846976:Nat):Int):=by
 have h:=u64_and_nat n 1152921504606846975 h (by omega)
 rw [show (1152921504606846975:Nat)=2^60-1 by decide,Nat.and_two_pow_sub_one_eq_mod] at h
 exact h
theorem wd4_zeroL (u:World):(zeroValue 76).run Tryz.prog u=.ok (.agg #[.int .u64 0,.int .u64 0,.int .u64 0,.int .u64 0]) u:=wd4_zero u
theorem sc_order_row:#[Value.int .u64 6346243789798364141,.int .u64 1503914060200516822,.int .u64 0,.int .u64 1152921504606846976]=wdW 4 LL :=
 four_row 6346243789798364141 1503914060200516822 0 1152921504606846976 LL (by decide) (by decide) (by decide) (by decide) (by decide)
theorem scorder_any (w:World):Calls Tryz.prog 44 #[] w (RetV w (.agg (wdW 4 LL))):=by
 have hz4:=wd4_zeroL
 rw [← sc_order_row]
 go_enter Tryz.func44,Tryz.ntmps44
 go_wp2
 refine bodyPost_ret (v:=.agg #[.int .u64 6346243789798364141,.int .u64 1503914060200516822,.int .u64 0,.int .u64 1152921504606846976]) (by simp [results,Tryz.results44,go_sem]) rfl ⟨rfl,?_⟩
 exact (Below.refl _ _).alloc (Nat.le_refl _) _
theorem screst_any (q:Nat) (hq:q<68719476736) (w:World):Calls Tryz.prog 149 #[.int .u64 (q:Int)] w (RetV w (.agg (wdW 4 (q*R11)))):=by
 have hz4:=wd4_zeroL
 obtain ⟨u,l,M0,m0,p0,q0⟩:=mul_ex q 6346243789798364141 (by omega) (by omega)
 obtain ⟨t,v,M1,m1,p1,q1⟩:=mul_ex q 1503914060200516822 (by omega) (by omega)
 obtain ⟨z,d,s,e,lz⟩:=add_ex v u 0 (by omega)
 have hf:IntKind.u64.wrap ((t:Int)+(d:Int))=((t+d:Nat):Int):=by rw [IntKind.wrap_u64];omega
 have hrow:=four_row l z (t+d) 0 (q*R11) (by unfold Q64;omega) (by unfold Q64;omega) (by unfold Q64;omega) (by decide) (by unfold Q64 R11;omega)
 rw [← hrow]
 have HM0:Hid (∀ w:World,Calls Tryz.prog 147 #[.int .u64 (q:Int),.int .u64 6346243789798364141] w fun e w'=>e=.returned (.tuple #[.int .u64 (u:Int),.int .u64 (l:Int)])∧w'=w):=M0
 have HM1:Hid (∀ w:World,Calls Tryz.prog 147 #[.int .u64 (q:Int),.int .u64 1503914060200516822] w fun e w'=>e=.returned (.tuple #[.int .u64 (t:Int),.int .u64 (v:Int)])∧w'=w):=M1
 simp only [Int.ofNat_zero] at s
 generalize t+d=td at *
 clear m0 m1 e lz M0 M1 hrow hq p0 q0 p1 q1
 go_enter Tryz.func149,Tryz.ntmps149
 go_wp2_with fail
 with_reducible refine (HM0.out _).mono ?_
 rintro e w' ⟨rfl,rfl⟩
 go_wp2_with fail
 with_reducible refine (HM1.out _).mono ?_
 rintro e w' ⟨rfl,rfl⟩
 go_wp2
 refine bodyPost_ret (v:=.agg #[.int .u64 (l:Int),.int .u64 (z:Int),.int .u64 (td:Int),.int .u64 0]) (by simp [results,Tryz.results149,go_sem]) rfl ⟨rfl,?_⟩
 exact (Below.refl _ _).alloc (Nat.le_refl _) _
theorem scnext_any (n v:Nat) (hn:n<LL) (hv:v<4294967296) (w:World):Calls Tryz.prog 110 #[.agg (wdW 4 n),.int .u32 (v:Int)] w (RetV w (.agg (wdW 4 ((n*2^32+v) % LL)))):=by
 have hz4:=wd4_zeroL
 obtain ⟨Sn,qn,On,i1,i2,i3,i4,hOl,hO,e1,e2⟩:=next_ex hn hv
 rw [hO]
 have iO:=zaT On
 have oO:=wdW_one 4 On
 have sO:(#[.int .u64 0,.int .u64 0,.int .u64 0,.int .u64 0]:Array Value).size=(wdW 4 On).size:=by rw [zaz];rfl
 rw [wdW_four n]
 have h0:=wq_lt n 0
 have h1:=wq_lt n 1
 have h2:=wq_lt n 2
 have h3:=wq_lt n 3
 generalize wq n 0=n0 at *
 generalize wq n 1=n1 at *
 generalize wq n 2=n2 at *
 generalize wq n 3=n3 at *
 unfold Q64 at h0 h1 h2 h3
 have HREST:=yh fun W:World=>screst_any (n3/268435456) (by omega) W
 have HMIN:Hid (∀ W:World,Calls Tryz.prog 88 #[.agg (wdW 4 Sn),.agg (wdW 4 (n3/268435456*R11))] W (RetV W (.tuple #[.agg (wdW 4 ((Sn+(Q4-n3/268435456*R11)) % Q4)),.bool (decide (Sn<n3/268435456*R11))]))):=yh fun W=>scminus_any _ _ (Nat.lt_trans i2 (by decide)) (by rw [e2];exact Nat.lt_trans i1 (by decide)) W
 have HPLUS:Hid (∀ W:World,Sn<qn*R11→Calls Tryz.prog 150 #[.agg (wdW 4 ((Sn+(Q4-qn*R11)) % Q4)),.agg (wdW 4 LL)] W (RetV W (.agg (wdW 4 On)))):=yh fun W h=>by
  have hm:(Sn+(Q4-qn*R11)) % Q4<Q4:=Nat.mod_lt _ (by decide)
  have e:=min_less i2 i1 h (i3 h) hOl
  have:=scplus_any ((Sn+(Q4-qn*R11)) % Q4) LL hm (by decide) W
  rwa [e] at this
 have HELSE:Hid (¬ Sn<qn*R11→wdW 4 ((Sn+(Q4-qn*R11)) % Q4)=wdW 4 On):=yh fun h=>by
  rw [min_else i2 i1 h (i4 h)]
 have HORD:=yh fun W:World=>scorder_any W
 rw [e2] at HREST HMIN
 obtain ⟨dd,hdd⟩:∃ d,wdW 4 ((Sn+(Q4-qn*R11)) % Q4)=d:=⟨_,rfl⟩
 have iD:(Tryz.prog.info? 76).map (·.size)=some dd.size:=by rw [← hdd];exact zaT _
 have sD:(#[.int .u64 0,.int .u64 0,.int .u64 0,.int .u64 0]:Array Value).size=dd.size:=by rw [← hdd,zaz];rfl
 have oD:dd.all (·.oneCell')=true:=by rw [← hdd];exact wdW_one _ _
 have sDO:dd.size=(wdW 4 On).size:=by rw [← hdd,zaz,zaz]
 rw [hdd] at HMIN HPLUS HELSE
 have hrow:=four_row (v+2^32*(n0 % 4294967296)) (n0/4294967296+2^32*(n1 % 4294967296)) (n1/4294967296+2^32*(n2 % 4294967296)) (n2/4294967296+2^32*(n3 % 268435456)) Sn (by unfold Q64;omega) (by unfold Q64;omega) (by unfold Q64;omega) (by unfold Q64;omega) e1
 have a3:=and60 (2^32*(n3 % 4294967296)) (by omega)
 rw [show 2^32*(n3 % 4294967296) % 1152921504606846976=2^32*(n3 % 268435456) by omega] at a3
 have r0:=or_high v (n0 % 4294967296) 32 (by omega) (by omega) (by omega)
 have r1:=or_high (n0/4294967296) (n1 % 4294967296) 32 (by omega) (by omega) (by omega)
 have r2:=or_high (n1/4294967296) (n2 % 4294967296) 32 (by omega) (by omega) (by omega)
 have r3:=or_high (n2/4294967296) (n3 % 268435456) 32 (by omega) (by omega) (by omega)
 have d0:(n0:Int)/4294967296=((n0/4294967296:Nat):Int):=by omega
 have d1:(n1:Int)/4294967296=((n1/4294967296:Nat):Int):=by omega
 have d2:(n2:Int)/4294967296=((n2/4294967296:Nat):Int):=by omega
 have d3:(n3:Int)/268435456=(qn:Int):=by omega
 have m0:IntKind.u64.wrap ((n0:Int)*4294967296)=((2^32*(n0 % 4294967296):Nat):Int):=by rw [IntKind.wrap_u64];omega
 have m1:IntKind.u64.wrap ((n1:Int)*4294967296)=((2^32*(n1 % 4294967296):Nat):Int):=by rw [IntKind.wrap_u64];omega
 have m2:IntKind.u64.wrap ((n2:Int)*4294967296)=((2^32*(n2 % 4294967296):Nat):Int):=by rw [IntKind.wrap_u64];omega
 have m3:IntKind.u64.wrap ((n3:Int)*4294967296)=((2^32*(n3 % 4294967296):Nat):Int):=by rw [IntKind.wrap_u64];omega
 have v0:IntKind.u64.wrap (v:Int)=(v:Int):=by rw [IntKind.wrap_u64];omega
 clear e1 e2 i1 i2 i3 i4 hO hOl
 generalize v+2^32*(n0 % 4294967296)=o0 at *
 generalize n0/4294967296+2^32*(n1 % 4294967296)=o1 at *
 generalize n1/4294967296+2^32*(n2 % 4294967296)=o2 at *
 generalize n2/4294967296+2^32*(n3 % 268435456)=o3 at *
 generalize 2^32*(n0 % 4294967296)=s0 at *
 generalize 2^32*(n1 % 4294967296)=s1 at *
 generalize 2^32*(n2 % 4294967296)=s2 at *
 generalize 2^32*(n3 % 4294967296)=s3 at *
 generalize 2^32*(n3 % 268435456)=s4 at *
 generalize n0/4294967296=y0 at *
 generalize n1/4294967296=y1 at *
 generalize n2/4294967296=y2 at *
 have iS:(Tryz.prog.info? 76).map (·.size)=some (#[.int .u64 (o0:Int),.int .u64 (o1:Int),.int .u64 (o2:Int),.int .u64 (o3:Int)]:Array Value).size:=by kernel_rfl
 have sS:(#[.int .u64 0,.int .u64 0,.int .u64 0,.int .u64 0]:Array Value).size=(#[.int .u64 (o0:Int),.int .u64 (o1:Int),.int .u64 (o2:Int),.int .u64 (o3:Int)]:Array Value).size:=rfl
 have oS:(#[.int .u64 (o0:Int),.int .u64 (o1:Int),.int .u64 (o2:Int),.int .u64 (o3:Int)]:Array Value).all (·.oneCell')=true:=by simp [Value.oneCell']
 have iSW:=zaT Sn
 generalize wdW 4 Sn=SW at *
 generalize wdW 4 On=OUT at *
 obtain ⟨bb,hbb⟩:∃ b,decide (Sn<qn*R11)=b:=⟨_,rfl⟩
 rw [hbb] at HMIN
 have HBB:=yh hbb
 have HROW:=yh hrow
 have KiD:=yh iD
 have KsD:=yh sD
 have KoD:=yh oD
 have KsDO:=yh sDO
 have KiO:=yh iO
 have KsO:=yh sO
 have KoO:=yh oO
 clear h0 h1 h2 h3 hbb hrow hdd hn hv iD sD oD sDO iO sO oO
 have hr0:RowsW (((w.alloc (.cells #[.int .u64 (n0:Int),.int .u64 (n1:Int),.int .u64 (n2:Int),.int .u64 (n3:Int)] 76)).alloc (.cells #[.int .u64 0,.int .u64 0,.int .u64 0,.int .u64 0] 76)).alloc (.cells #[.int .u64 0,.int .u64 0,.int .u64 0,.int .u64 0] 76)) [(w.heap.size+1+1,#[.int .u64 0,.int .u64 0,.int .u64 0,.int .u64 0],76),(w.heap.size+1,#[.int .u64 0,.int .u64 0,.int .u64 0,.int .u64 0],76),(w.heap.size,#[.int .u64 (n0:Int),.int .u64 (n1:Int),.int .u64 (n2:Int),.int .u64 (n3:Int)],76)]:=by
  have h:=(((RowsW.nil w).box #[.int .u64 (n0:Int),.int .u64 (n1:Int),.int .u64 (n2:Int),.int .u64 (n3:Int)] 76).box #[.int .u64 0,.int .u64 0,.int .u64 0,.int .u64 0] 76).box #[.int .u64 0,.int .u64 0,.int .u64 0,.int .u64 0] 76
  (try simp only [World.size_alloc] at h)
  exact h
 have hb0:Below w.heap.size w (((w.alloc (.cells #[.int .u64 (n0:Int),.int .u64 (n1:Int),.int .u64 (n2:Int),.int .u64 (n3:Int)] 76)).alloc (.cells #[.int .u64 0,.int .u64 0,.int .u64 0,.int .u64 0] 76)).alloc (.cells #[.int .u64 0,.int .u64 0,.int .u64 0,.int .u64 0] 76)):=zab (zab (zab (Below.refl _ _) _) _) _
 have HR0:=yh hr0
 have HB0:=yh hb0
 clear hr0 hb0
 have h3:=HR0.out.head
 go_enter Tryz.func110,Tryz.ntmps110
 go_upto_region 3 with (refine yj #[.int .u64 (o0:Int),.int .u64 (o1:Int),.int .u64 (o2:Int),.int .u64 (o3:Int)] h3 iS sS oS ?_)
 rw [HROW.out]
 have HR1:Hid (RowsW ((((w.alloc (.cells #[.int .u64 (n0:Int),.int .u64 (n1:Int),.int .u64 (n2:Int),.int .u64 (n3:Int)] 76)).alloc (.cells #[.int .u64 0,.int .u64 0,.int .u64 0,.int .u64 0] 76)).alloc (.cells #[.int .u64 0,.int .u64 0,.int .u64 0,.int .u64 0] 76)).setRow (w.heap.size+1+1) SW) [(w.heap.size+1+1,SW,76),(w.heap.size+1,#[.int .u64 0,.int .u64 0,.int .u64 0,.int .u64 0],76)]):=yh ⟨setRow_heap _ _ _ _ _ _ h3,by rw [setRow_other _ _ _ _ (by omega)];exact HR0.out.tail.head,trivial⟩
 have HB1:Hid (Below w.heap.size w ((((w.alloc (.cells #[.int .u64 (n0:Int),.int .u64 (n1:Int),.int .u64 (n2:Int),.int .u64 (n3:Int)] 76)).alloc (.cells #[.int .u64 0,.int .u64 0,.int .u64 0,.int .u64 0] 76)).alloc (.cells #[.int .u64 0,.int .u64 0,.int .u64 0,.int .u64 0] 76)).setRow (w.heap.size+1+1) SW)):=yh (zad HB0.out (by omega))
 obtain ⟨W1,hW1⟩:∃ W,(((w.alloc (.cells #[.int .u64 (n0:Int),.int .u64 (n1:Int),.int .u64 (n2:Int),.int .u64 (n3:Int)] 76)).alloc (.cells #[.int .u64 0,.int .u64 0,.int .u64 0,.int .u64 0] 76)).alloc (.cells #[.int .u64 0,.int .u64 0,.int .u64 0,.int .u64 0] 76)).setRow (w.heap.size+1+1) SW=W:=⟨_,rfl⟩
 rw [hW1] at HR1 HB1
 rw [hW1]
 obtain ⟨g,hg⟩:∃ g,w.heap.size=g:=⟨_,rfl⟩
 rw [hg] at HR1
 rw [hg]
 have HG:=yh hg
 clear hg hW1 h3 HR0 HB0 r0 r1 r2 r3 d0 d1 d2 d3 m0 m1 m2 m3 a3 v0 HROW iS sS oS
 refine wp_region_noPanic ?_
 refine zai 7 7 76 #[.int .u64 0,.int .u64 0,.int .u64 0,.int .u64 0] (by kernel_rfl) (by kernel_rfl) ⟨by kernel_rfl,by kernel_rfl,wd4_zeroL,fun _ _ _ h=>h⟩ (fun hA hS=>?_)
 refine' yD 0 hA hS ?_ (hy:=fun W hSW=>zac rfl rfl ((HR1.out.below hSW).head) Tryz.underlying76 rfl iSW)
 refine' yD 1 hA hS ?_
 refine xE 2 hA hS (fun oq Wq hS K hK=>?_)
 go_simp
 with_reducible refine (HREST.out Wq).mono ?_
 rintro e uq ⟨rfl,hbq⟩
 refine hK.out _ _ hbq (fun hS=>?_)
 clear hK K hbq
 refine xE 3 hA hS (fun oq Wq hS K hK=>?_)
 go_simp
 with_reducible refine (HMIN.out Wq).mono ?_
 rintro e uq ⟨rfl,hbq⟩
 refine hK.out _ _ hbq (fun hS=>?_)
 clear hK K hbq
 refine' yD 4 hA hS ?_
 refine' yD 5 hA hS ?_
 refine' yD 6 hA hS ?_
 refine' zay 8 hA rfl (by kernel_rfl) (by kernel_rfl) (by kernel_rfl) hS (by kernel_rfl) rfl (by intro h;cases h) KiD.out KsD.out KoD.out ?_ ?_
 rotate_left 1
 ·intro g;simp only [List.set_cons_succ,List.set_cons_zero];rfl
 intro gq Wq hgq hbq hrowq
 clear hA hS
 refine' take_at 9 rfl (by kernel_rfl) (by kernel_rfl) (by kernel_rfl) (fun _ _ _ h=>h) (by rfl) hbq ?_ ?_ ?_
 rotate_left 2
 ·intro W hSW;go_simp;try with_reducible rfl
 ·simp only [List.set_cons_succ,List.set_cons_zero];rfl
 refine wpAnyH_done (by kernel_rfl) ?_ _
 refine NoPanic.normal ?_
 (try simp only [Act.put])
 have HRq:Hid (RowsW Wq [(gq,dd,76),(g+1+1,SW,76),(g+1,#[.int .u64 0,.int .u64 0,.int .u64 0,.int .u64 0],76)]):=yh ⟨hrowq,HR1.out.below hbq⟩
 have HBq:=yh (zaa HB1.out hbq)
 have HGQ:Hid (W1.heap.size≤gq):=yh hgq
 have HGS:Hid (g+1+1<W1.heap.size):=yh (Array.getElem?_eq_some_iff.1 HR1.out.head).1
 clear hgq hbq hrowq HREST HMIN HR1 HB1
 have hgg:w.heap.size≤gq:=by rw [HG.out];have:=HGQ.out;have:=HGS.out;omega
 have hgn:gq≠g+1:=by have:=HGQ.out;have:=HGS.out;omega
 have HGG:=yh hgg
 have HGN:=yh hgn
 clear hgg hgn
 by_cases hlt:Sn<qn*R11
 ·have e0:bb=true:=by rw [← HBB.out];exact decide_eq_true hlt
  subst e0
  have HP:=yh fun W:World=>HPLUS.out W hlt
  clear hlt HPLUS HELSE HBB
  go_upto_region 5 with fail
  refine wp_region_noPanic ?_
  refine zag (S:=fun W=>Below Wq.heap.size Wq W) 2 (by kernel_rfl) ⟨by kernel_rfl,by kernel_rfl,by kernel_rfl,by kernel_rfl⟩ (by exact (Below.refl _ _).drew) (fun hT inv hS=>?_)
  refine' yT 0 hT inv hS (fun inv=>?_) (hy:=fun W hSW=>zac rfl rfl ((HRq.out.below hSW).head) Tryz.underlying76 rfl KiD.out)
  refine xT 1 inv (fun K hK=>?_)
  go_simp
  with_reducible refine (HORD.out _).mono ?_
  rintro e u1 ⟨rfl,hb1⟩
  have kb1:=zaa hS hb1
  clear hS hb1
  refine hK.out _ _ (by exact kb1) (fun inv hS=>?_)
  clear hK K
  refine zaE (by kernel_rfl) ?_
  simp only [List.drop_succ_cons,List.drop_zero]
  clear hS
  (try simp only [Act.put])
  have HR2:=yh (HRq.out.below kb1)
  have HB2:=yh (zaa HBq.out kb1)
  clear kb1
  go_wp2_with fail
  with_reducible refine (HP.out _).mono ?_
  rintro e w2 ⟨rfl,hb2⟩
  have HR3:=yh (HR2.out.below hb2)
  have HB3:=yh (zaa HB2.out hb2)
  clear hb2 HR2 HB2
  have hr3:=HR3.out.head
  go_wp2_with (refine yj OUT hr3 KiO.out KsDO.out KoO.out ?_)
  have HR4:Hid (RowsW (w2.setRow gq OUT) [(gq,OUT,76),(g+1,#[.int .u64 0,.int .u64 0,.int .u64 0,.int .u64 0],76)]):=yh ⟨setRow_heap _ _ _ _ _ _ hr3,by rw [setRow_other _ _ _ _ (Ne.symm HGN.out)];exact HR3.out.tail.tail.head,trivial⟩
  have HB4:Hid (Below w.heap.size w (w2.setRow gq OUT)):=yh (zad HB3.out HGG.out)
  obtain ⟨W4,hW4⟩:∃ W,w2.setRow gq OUT=W:=⟨_,rfl⟩
  rw [hW4] at HR4 HB4
  rw [hW4]
  clear hW4 hr3 HR3 HB3
  (try refine NoPanic.normal ?_)
  have h4:=HR4.out.head
  have h5:=HR4.out.tail.head
  have HE:Hid (Below w.heap.size w (W4.setRow (g+1) OUT)):=yh (zad HB4.out (by rw [HG.out];omega))
  go_wp2_with (first
   | (refine yi h4 Tryz.underlying76 KiO.out ?_)
   | (refine yj OUT h5 KiO.out KsO.out KoO.out ?_))
  (try simp only [Exit.inBlock,Exit.then])
  refine bodyPost_ret (results_cell_row rfl _ _ (g+1) _ OUT _ _ rfl (setRow_heap _ _ _ _ _ _ h5) Tryz.underlying76 rfl KiO.out) rfl ?_
  exact ⟨rfl,HE.out⟩
 ·have e0:bb=false:=by rw [← HBB.out];exact decide_eq_false hlt
  subst e0
  have hde:=HELSE.out hlt
  subst hde
  clear hlt HPLUS HELSE HBB
  have h4:=HRq.out.head
  have h5:=HRq.out.tail.tail.head
  have HE:Hid (Below w.heap.size w (Wq.setRow (g+1) dd)):=yh (zad HBq.out (by rw [HG.out];omega))
  go_wp2_with (first
   | (refine yi h4 Tryz.underlying76 KiO.out ?_)
   | (refine yj dd h5 KiO.out KsO.out KoO.out ?_))
  (try simp only [Exit.inBlock,Exit.then])
  refine bodyPost_ret (results_cell_row rfl _ _ (g+1) _ dd _ _ rfl (setRow_heap _ _ _ _ _ _ h5) Tryz.underlying76 rfl KiO.out) rfl ?_
  exact ⟨rfl,HE.out⟩
theorem screduced_any (n:Nat) (hn:n<Q64^8) (w:World):Calls Tryz.prog 55 #[.agg (wdW 8 n)] w (RetV w (.agg (wdW 4 (n % LL)))):=by
 have hz4:=wd4_zero
 have HN8:Hid (∀ d,d<8→(wdW 8 n)[d]?=some (.int .u64 (wq n d:Int))):=yh fun d h=>wdW_get 8 n d h
 have HZ0:Hid (wdW 4 0=wdW 4 (n/Q64^8 % LL)):=yh (by rw [Nat.div_eq_of_lt hn];rfl)
 have HE0:Hid (wdW 4 (n/Q64^0 % LL)=wdW 4 (n % LL)):=yh (by rw [Nat.pow_zero,Nat.div_one])
 have iO:=zaT (n % LL)
 have oO:=wdW_one 4 (n % LL)
 have sO:(wdW 4 0).size=(wdW 4 (n % LL)).size:=by rw [zaz,zaz]
 generalize wdW 4 (n % LL)=OUT at *
 generalize wdW 8 n=N8 at *
 generalize wdW 4 0=z4 at *
 clear hn
 have hr0:RowsW (((w.alloc (.cells N8 88)).alloc (.cells z4 76)).alloc (.cells z4 76)) [(w.heap.size+1+1,z4,76),(w.heap.size+1,z4,76),(w.heap.size,N8,88)]:=by
  have h:=(((RowsW.nil w).box N8 88).box z4 76).box z4 76
  (try simp only [World.size_alloc] at h)
  exact h
 have hb0:Below w.heap.size w (((w.alloc (.cells N8 88)).alloc (.cells z4 76)).alloc (.cells z4 76)):=zab (zab (zab (Below.refl _ _) _) _) _
 have HR0:=yh hr0
 have HB0:=yh hb0
 clear hr0 hb0
 go_enter Tryz.func55,Tryz.ntmps55
 go_wp2_with fail
 obtain ⟨W1,hW1⟩:∃ W,(((w.alloc (.cells N8 88)).alloc (.cells z4 76)).alloc (.cells z4 76))=W:=⟨_,rfl⟩
 rw [hW1] at HR0 HB0
 rw [hW1]
 obtain ⟨g,hg⟩:∃ g,w.heap.size=g:=⟨_,rfl⟩
 rw [hg] at HR0
 rw [hg]
 have HG:=yh hg
 clear hg
 clear hW1
 have HI:Hid (Lp w W1 (g+1+1) (wdW 4 (n/Q64^8 % LL)) 76 [(g+1,z4,76),(g,N8,88)]):=yh ⟨by rw [← HZ0.out];exact HR0.out,by rw [HG.out];omega,by simp;omega,HB0.out⟩
 clear HR0 HB0 HZ0
 go_loopw [4] (fun i_ wr=>∃ k:Nat,k≤8∧i_=.int .i64 ((k:Int)-1)∧Hid (Lp w wr (g+1+1) (wdW 4 (n/Q64^k % LL)) 76 [(g+1,z4,76),(g,N8,88)])) (fun i_ _=>(intOf i_+1).toNat)
 case atStart=>exact ⟨8,by omega,by rfl,HI⟩
 case round =>
  clear HI
  obtain ⟨k,hk,rfl,HI⟩:=hrel
  by_cases hlt:0<k
  ·obtain ⟨j,rfl⟩:∃ j,k=j+1:=⟨k-1,by omega⟩
   have ej:((j+1:Nat):Int)-1=(j:Int):=by omega
   rw [ej]
   have hw:=wq_lt n j
   have HNX:=yh (round_is n j)
   have hA:n/Q64^(j+1) % LL<LL:=Nat.mod_lt _ (by decide)
   unfold Q64 at hw
   generalize hx:wq n j=x at *
   have w1:IntKind.u32.wrap ((x:Int)/4294967296)=((x/4294967296:Nat):Int):=by rw [IntKind.wrap_u32];omega
   have w2:(x:Int) % 4294967296=((x % 4294967296:Nat):Int):=by omega
   have HN1:Hid (∀ W:World,Calls Tryz.prog 110 #[.agg (wdW 4 (n/Q64^(j+1) % LL)),.int .u32 (IntKind.u32.wrap ((x:Int)/4294967296))] W (RetV W (.agg (wdW 4 ((n/Q64^(j+1) % LL*2^32+x/4294967296) % LL))))):=yh fun W=>by rw [w1];exact scnext_any _ _ hA (by omega) W
   have HN2:Hid (∀ W:World,Calls Tryz.prog 110 #[.agg (wdW 4 ((n/Q64^(j+1) % LL*2^32+x/4294967296) % LL)),.int .u32 ((x:Int) % 4294967296)] W (RetV W (.agg (wdW 4 (n/Q64^j % LL))))):=yh fun W=>by
    rw [w2]
    have:=scnext_any ((n/Q64^(j+1) % LL*2^32+x/4294967296) % LL) (x % 4294967296) (Nat.mod_lt _ (by decide)) (by omega) W
    rw [HNX.out] at this
    exact this
   have HX:Hid (∀ W:World,Below wr.heap.size wr W→W.cell? ⟨g,j,none⟩=some (.int .u64 (x:Int))):=yh fun W hb=>by
    have h:=(HI.out.rows.below hb).tail.tail.head
    rw [cell_of_row _ _ _ _ _ _ h,HN8.out _ (by omega),hx]
   have iA:=zaT (n/Q64^(j+1) % LL)
   have iB:=zaT (n/Q64^j % LL)
   have oB:=wdW_one 4 (n/Q64^j % LL)
   have sB:(wdW 4 (n/Q64^(j+1) % LL)).size=(wdW 4 (n/Q64^j % LL)).size:=by rw [zaz,zaz]
   generalize wdW 4 (n/Q64^(j+1) % LL)=NA at *
   generalize wdW 4 ((n/Q64^(j+1) % LL*2^32+x/4294967296) % LL)=NM at *
   obtain ⟨NB,hNB⟩:∃ c,wdW 4 (n/Q64^j % LL)=c:=⟨_,rfl⟩
   rw [hNB] at HN2 iB oB sB
   have HNB:=yh hNB
   have b1:0≤(j:Int):=by omega
   have b2:(j:Int)<8:=by omega
   have HK:=yh hk
   clear hx hw w1 w2 hA hNB ej hk hlt HNX
   go_upto_region 5 with fail
   refine wp_region_noPanic ?_
   refine zag (S:=fun W=>Below wr.heap.size wr W) 11 (by kernel_rfl) ⟨by kernel_rfl,by kernel_rfl,by kernel_rfl,by kernel_rfl⟩ (by exact (Below.refl _ _).drew) (fun hT inv hS=>?_)
   refine' yT 0 hT inv hS (fun inv=>?_) (hy:=fun W hSW=>zac rfl rfl ((HI.out.rows.below hSW).head) Tryz.underlying76 rfl iA)
   refine' yT 1 hT inv hS (fun inv=>?_)
   refine' yT 2 hT inv hS (fun inv=>?_)
   refine' yT 3 hT inv hS (fun inv=>?_) (hy:=by intro W hSW;have hc:=HX.out W hSW;go_simp;try with_reducible rfl)
   refine' yT 4 hT inv hS (fun inv=>?_)
   refine' yT 5 hT inv hS (fun inv=>?_)
   refine' yT 7 hT inv hS (fun inv=>?_)
   refine' yT 8 hT inv hS (fun inv=>?_)
   refine' yT 9 hT inv hS (fun inv=>?_) (hy:=by intro W hSW;have hc:=HX.out W hSW;go_simp;try with_reducible rfl)
   refine' yT 10 hT inv hS (fun inv=>?_)
   refine xT 6 inv (fun K hK=>?_)
   go_simp
   with_reducible refine (HN1.out _).mono ?_
   rintro e u1 ⟨rfl,hb1⟩
   have kb1:=zaa hS hb1
   clear hS hb1
   refine hK.out _ _ (by exact kb1) (fun inv hS=>?_)
   clear hK K
   refine zaE (by kernel_rfl) ?_
   simp only [List.drop_succ_cons,List.drop_zero]
   clear hS
   (try simp only [Act.put])
   have HI2:=yh (HI.out.call kb1)
   clear kb1 HI
   go_wp2_with fail
   with_reducible refine (HN2.out _).mono ?_
   rintro e w2 ⟨rfl,hb2⟩
   have HI3:=yh (HI2.out.call hb2)
   clear hb2 HI2
   have hr3:=HI3.out.rows.head
   go_wp2_with (refine yj NB hr3 iB sB oB ?_)
   have HI4:Hid (Lp w (w2.setRow (g+1+1) NB) (g+1+1) (wdW 4 (n/Q64^j % LL)) 76 [(g+1,z4,76),(g,N8,88)]):=yh ⟨by rw [HNB.out];exact HI3.out.rows.put HI3.out.far NB,HI3.out.new,HI3.out.far,zad HI3.out.below HI3.out.new⟩
   clear hr3 HI3
   (try refine NoPanic.normal ?_)
   go_wp2_with fail
   go_roundw
   case rel=>exact ⟨j,by have:=HK.out;omega,by go_num,HI4⟩
   case measure=>simp [intOf] <;> omega
  ·obtain rfl:k=0:=by omega
   rw [HE0.out] at HI
   have h1:=HI.out.rows.head
   have h0:=HI.out.rows.tail.head
   have HB:Hid (Below w.heap.size w (wr.setRow (g+1) OUT)):=yh (zad HI.out.below (by rw [HG.out];omega))
   clear HI
   go_wp2_with (first
    | (refine yi h1 Tryz.underlying76 iO ?_)
    | (refine yj OUT h0 iO sO oO ?_))
   (try simp only [Exit.inBlock,Exit.then])
   refine bodyPost_ret (results_cell_row rfl _ _ (g+1) _ OUT _ _ rfl (setRow_heap _ _ _ _ _ _ h0) Tryz.underlying76 rfl iO) rfl ?_
   exact ⟨rfl,HB.out⟩
theorem word_sum {h l p z1 z2 d1 d2 u v c:Nat} (m0:h*c+l=p) (e1:z1+d1*c=l+u+0) (e2:z2+d2*c=z1+v+0):z2+(h+d1+d2)*c=p+u+v:=by
 rw [Nat.add_mul,Nat.add_mul];omega
theorem word_lim {z d p u v:Nat} (hr:z+d*18446744073709551616=p+u+v) (hm:p≤340282366920938463426481119284349108225) (hu:u<18446744073709551616) (hv:v<18446744073709551616):d<18446744073709551616:=by omega
theorem scword_ex (x y u v:Nat) (hx:x<18446744073709551616) (hy:y<18446744073709551616) (hu:u<18446744073709551616) (hv:v<18446744073709551616):∃ z d:Nat,
  Hid (∀ w:World,Calls Tryz.prog 109 #[.int .u64 (x:Int),.int .u64 (y:Int),.int .u64 (u:Int),.int .u64 (v:Int)] w fun e w'=>e=.returned (.tuple #[.int .u64 (z:Int),.int .u64 (d:Int)])∧w'=w) ∧
  z+d*18446744073709551616=x*y+u+v∧z<18446744073709551616∧d<18446744073709551616:=by
 have hm:x*y≤340282366920938463426481119284349108225:=Nat.le_trans (Nat.mul_le_mul (show x≤18446744073709551615 by omega) (show y≤18446744073709551615 by omega)) (by decide)
 obtain ⟨h,l,M0,m0,p0,q0⟩:=mul_ex x y hx hy
 obtain ⟨z1,d1,s1,e1,l1⟩:=add_ex l u 0 (by omega)
 obtain ⟨z2,d2,s2,e2,l2⟩:=add_ex z1 v 0 (by omega)
 generalize x*y=p at *
 have hr:=word_sum m0 e1 e2
 have hd:=word_lim hr hm hu hv
 refine ⟨z2,h+d1+d2,yh fun w=>?_,hr,l2,hd⟩
 have f1:IntKind.u64.wrap ((h:Int)+(d1:Int))=((h+d1:Nat):Int):=by rw [IntKind.wrap_u64];omega
 have f2:IntKind.u64.wrap (((h+d1:Nat):Int)+(d2:Int))=((h+d1+d2:Nat):Int):=by rw [IntKind.wrap_u64];omega
 simp only [Int.ofNat_zero] at s1 s2
 generalize h+d1+d2=hd2 at *
 generalize h+d1=hd1 at *
 clear hr hd hm m0 e1 e2 l1 l2 hx hy hu hv p0 q0
 go_enter Tryz.func109,Tryz.ntmps109
 go_wp2_with fail
 with_reducible refine (M0.out _).mono ?_
 rintro e w' ⟨rfl,rfl⟩
 go_wp2
 go_ret2
 exact ⟨rfl,rfl⟩
theorem wd4_at (n i:Nat) (hi:i<4) (u:World):(Instr.index 76 (.agg (wdW 4 n)) (.int .i64 (i:Int))).run Tryz.prog u=.ok (.int .u64 (wq n i:Int)) u:=by
 have hu:Tryz.prog.underlying 76=some (.array 4 61):=by kernel_rfl
 have h1:(0:Int)≤(i:Int)∧(i:Int)<((4:Nat):Int):=⟨by omega,by omega⟩
 have hs:(sizeOf 61).run Tryz.prog u=.ok 1 u:=by kernel_rfl
 have hv:=wdW_get 4 n i hi
 simp [Instr.index,run_underlying hu,asIntOf,h1,hi,go_sem,hs,hv]
theorem zero_words (l:List Nat) (hl:Ws 8 l) (i:Nat) (h:vQ l<Q64^i) (j:Nat) (hj:i≤j) (hj8:j<8):l.getD j 0=0:=by
 rw [← wsL_vQ hl,wsL_get _ _ _ hj8]
 unfold wq
 rw [Nat.div_eq_of_lt (Nat.lt_of_lt_of_le h (Nat.pow_le_pow_right (by decide) hj)),Nat.zero_mod]
theorem row_eight (c:Nat) (hc:c<Q4):((wdW 4 c).toList++(wdW 8 0).toList.drop (wdW 4 c).size).toArray=wsA (wsL 4 c++[0,0,0,0]):=by
 rw [zaz]
 unfold wdW wsA
 simp [wsL]
theorem eight_ws (c:Nat) (hc:c<Q4):Ws 8 (wsL 4 c++[0,0,0,0])∧vQ (wsL 4 c++[0,0,0,0])=c:=by
 have e:wsL 4 c++[0,0,0,0]=wsL 8 c:=by
  refine ws_ext (k:=8) (by simp [wsL_len]) (wsL_len _ _) fun i hi=>?_
  rw [wsL_get _ _ _ hi]
  by_cases h:i<4
  ·rw [List.getD_eq_getElem?_getD,List.getElem?_append_left (by rw [wsL_len];exact h),← List.getD_eq_getElem?_getD,wsL_get _ _ _ h]
  ·rw [List.getD_eq_getElem?_getD,List.getElem?_append_right (by rw [wsL_len];omega),wsL_len,← List.getD_eq_getElem?_getD]
   have h4:i=4∨i=5∨i=6∨i=7:=by omega
   have:wq c i=0:=by
    unfold wq
    rw [Nat.div_eq_of_lt (Nat.lt_of_lt_of_le (by rw [← q4_is] at hc;exact hc) (Nat.pow_le_pow_right (by decide) (show 4≤i by omega))),Nat.zero_mod]
   rw [this]
   rcases h4 with rfl | rfl | rfl | rfl <;> rfl
 rw [e]
 exact ⟨wsL_ws 8 c,vQ_eq (Nat.lt_trans (by rw [← q4_is] at hc;exact hc) (by decide))⟩
theorem scmuladd_any (a b c:Nat) (ha:a<Q4) (hb:b<Q4) (hc:c<Q4) (w:World) :
  Calls Tryz.prog 53 #[.agg (wdW 4 a),.agg (wdW 4 b),.agg (wdW 4 c)] w (RetV w (.agg (wdW 8 (a*b+c)))):=by
 have hz8:=wd8_zero
 obtain ⟨hws0,hv0⟩:=eight_ws c hc
 have HRE:=yh (row_eight c hc)
 have HWS0:=yh hws0
 have HV0:Hid (vQ (wsL 4 c++[0,0,0,0])=a % Q64^0*b+c):=yh (by rw [hv0,Nat.pow_zero,Nat.mod_one,Nat.zero_mul,Nat.zero_add])
 have HLIM:Hid (∀ i,i≤4→a % Q64^i*b+c<Q64^(i+4)):=yh fun i hi=>by
  rw [Nat.pow_add,q4_is]
  exact mul_lim (Nat.mod_lt _ (Nat.pow_pos (by decide))) hb hc
 have HEND:Hid (a % Q64^4*b+c=a*b+c):=yh (by rw [q4_is,Nat.mod_eq_of_lt ha])
 have HB4:Hid (b % Q64^4=b):=yh (by rw [q4_is,Nat.mod_eq_of_lt hb])
 have HIA:Hid (∀ k:Nat,k<4→∀ u,(Instr.index 76 (.agg (wdW 4 a)) (.int .i64 (k:Int))).run Tryz.prog u=.ok (.int .u64 (wq a k:Int)) u):=yh fun k hk u=>wd4_at a k hk u
 have HIB:Hid (∀ k:Nat,k<4→∀ u,(Instr.index 76 (.agg (wdW 4 b)) (.int .i64 (k:Int))).run Tryz.prog u=.ok (.int .u64 (wq b k:Int)) u):=yh fun k hk u=>wd4_at b k hk u
 have iA:=zaT a
 have iB:=zaT b
 have iO:=wd8_info (a*b+c)
 have oO:=wdW_one 8 (a*b+c)
 have sO:(wdW 8 0).size=(wdW 8 (a*b+c)).size:=by rw [zaz,zaz]
 have oC:=wdW_one 4 c
 have sC:(wdW 4 c).size=4:=zaz 4 c
 have s8:(wdW 8 0).size=8:=zaz 8 0
 have HOUT:Hid (∀ l,Ws 8 l→vQ l=a*b+c→wsA l=wdW 8 (a*b+c)):=yh fun l h1 h2=>ws_row h1 h2
 generalize wdW 8 (a*b+c)=OUT at *
 generalize wdW 8 0=z8 at *
 generalize wdW 4 a=WA at *
 generalize wdW 4 b=WB at *
 generalize wdW 4 c=WC at *
 clear hws0 hv0 ha hb hc
 have hr0:RowsW (((((w.alloc (.cells WA 76)).alloc (.cells WB 76)).alloc (.cells WC 76)).alloc (.cells z8 88)).alloc (.cells z8 88)) [(w.heap.size+1+1+1+1,z8,88),(w.heap.size+1+1+1,z8,88),(w.heap.size+1+1,WC,76),(w.heap.size+1,WB,76),(w.heap.size,WA,76)]:=by
  have h:=(((((RowsW.nil w).box WA 76).box WB 76).box WC 76).box z8 88).box z8 88
  simp only [World.size_alloc] at h
  exact h
 have hb0:Below w.heap.size w (((((w.alloc (.cells WA 76)).alloc (.cells WB 76)).alloc (.cells WC 76)).alloc (.cells z8 88)).alloc (.cells z8 88)):=zab (zab (zab (zab (zab (Below.refl _ _) _) _) _) _) _
 have HR0:=yh hr0
 have HB0:=yh hb0
 clear hr0 hb0
 go_enter Tryz.func53,Tryz.ntmps53
 go_wp2_with fail
 obtain ⟨W0,hW0⟩:∃ W,((((w.alloc (.cells WA 76)).alloc (.cells WB 76)).alloc (.cells WC 76)).alloc (.cells z8 88)).alloc (.cells z8 88)=W:=⟨_,rfl⟩
 obtain ⟨g,hg⟩:∃ g,w.heap.size=g:=⟨_,rfl⟩
 rw [hW0] at HB0
 rw [hW0,hg] at HR0
 have HG:=yh hg
 rw [hW0,hg]
 clear hW0 hg
 refine wp_region_still_tail 2 (by kernel_rfl) (by kernel_rfl) ?_
 simp only [List.take_succ_cons,List.take_zero,List.drop_succ_cons,List.drop_zero]
 iterate 2 still_step
 refine wpStill_nil ?_
 refine wpList_copy_row rfl (.tmp 13) (.tmp 14) 128 128 rfl 61 Tryz.underlying128 (by kernel_rfl) (g+1+1+1+1) 8 8 (g+1+1) 4 4 rfl rfl z8 WC 88 76 HR0.out.head HR0.out.tail.tail.head sC.symm (by rw [sC];omega) (by rw [sC,s8];omega) oC ?_
 rw [HRE.out]
 obtain ⟨W1,hW1⟩:∃ W,({ W0 with drawn:=W0.drawn+1 }:World).setRow (g+1+1+1+1) (wsA (wsL 4 c++[0,0,0,0]))=W:=⟨_,rfl⟩
 have HI:Hid (Lp w W1 (g+1+1+1+1) (wsA (wsL 4 c++[0,0,0,0])) 88 [(g+1+1+1,z8,88),(g+1,WB,76),(g,WA,76)]):=yh (by
  rw [← hW1]
  refine ⟨⟨setRow_heap _ _ _ _ _ _ HR0.out.head,?_,?_,?_,trivial⟩,by rw [HG.out];omega,by simp;omega,zad (zaD HB0.out 1) (by rw [HG.out];omega)⟩
  ·rw [setRow_other _ _ _ _ (by omega)];exact HR0.out.tail.head
  ·rw [setRow_other _ _ _ _ (by omega)];exact HR0.out.tail.tail.tail.head
  ·rw [setRow_other _ _ _ _ (by omega)];exact HR0.out.tail.tail.tail.tail.head)
 rw [hW1]
 have hla:=HI.out.rows.tail.tail.tail.head
 clear hW1 HR0 HB0 HRE sC s8 oC
 generalize wsL 4 c++[0,0,0,0]=L0 at *
 go_wp2_with (refine yi hla Tryz.underlying76 iA ?_)
 clear hla
 go_loopw [17] (fun i_ wr=>∃ (i:Nat) (l:List Nat),i≤4∧i_=.int .i64 (i:Int)∧Hid (Ws 8 l)∧Hid (vQ l=a % Q64^i*b+c)∧Hid (Lp w wr (g+1+1+1+1) (wsA l) 88 [(g+1+1+1,z8,88),(g+1,WB,76),(g,WA,76)])) (fun i_ _=>4-(intOf i_).toNat)
 case atStart=>exact ⟨0,L0,by omega,rfl,HWS0,HV0,HI⟩
 case round =>
  clear HI HWS0 HV0
  obtain ⟨i,l,hi,rfl,HWS,HV,HI⟩:=hrel
  by_cases hlt:i<4
  ·have hxi:=HIA.out i hlt
   have hx:=wq_lt a i
   have HXD:=yh (mod_q a i)
   have HZW:=yh (zero_words l HWS.out (i+4) (by rw [HV.out];exact HLIM.out i hi))
   obtain ⟨x,hxe⟩:∃ x,wq a i=x:=⟨_,rfl⟩
   rw [hxe] at hxi hx HXD
   have HX:=yh hx
   have hlb:=HI.out.rows.tail.tail.head
   have e7:decide ((i:Int)<4)=true:=decide_eq_true (by omega)
   have b5:0≤(i:Int):=by omega
   have b6:(i:Int)<4:=by omega
   have HLT:=yh hlt
   have HZ4:Hid (l.getD (i+4) 0=0):=yh (HZW.out (i+4) (Nat.le_refl _) (by omega))
   have HN0:Hid (vQ l+0*(Q64^i*Q64^0)=vQ l+x*(b % Q64^0)*Q64^i):=yh (by rw [Nat.pow_zero,Nat.mod_one];simp)
   obtain ⟨N0,hN0⟩:∃ n,vQ l=n:=⟨_,rfl⟩
   have HNV:Hid (N0=a % Q64^i*b+c):=yh (by rw [← hN0];exact HV.out)
   have HN1:Hid (vQ l+0*(Q64^i*Q64^0)=N0+x*(b % Q64^0)*Q64^i):=yh (by rw [← hN0];exact HN0.out)
   clear hx hxe hN0 HN0 HV hlt HZW
   go_wp2_with (refine yi hlb Tryz.underlying76 iB ?_)
   clear hlb
   go_loopw [10,22] (fun c_ j_ wr=>∃ (j:Nat) (l:List Nat) (cc:Nat),j≤4∧j_=.int .i64 (j:Int)∧c_=.int .u64 (cc:Int)∧Hid (Ws 8 l)∧Hid (l.getD (i+4) 0=0)∧Hid (cc<18446744073709551616)∧Hid (vQ l+cc*(Q64^i*Q64^j)=N0+x*(b % Q64^j)*Q64^i)∧Hid (Lp w wr (g+1+1+1+1) (wsA l) 88 [(g+1+1+1,z8,88),(g+1,WB,76),(g,WA,76)])) (fun _ j_ _=>4-(intOf j_).toNat)
   case atStart=>exact ⟨0,l,0,by omega,rfl,rfl,HWS,HZ4,yh (by omega),HN1,HI⟩
   case round =>
    clear HI HWS HN1 HZ4
    obtain ⟨j,l2,cc,hj,rfl,rfl,HWS,HZ4,HC,HV,HI⟩:=hrel
    by_cases hlt2:j<4
    ·have hyj:=HIB.out j hlt2
     have hy:=wq_lt b j
     have hij:=HLT.out
     have HYD:=yh (mod_q b j)
     obtain ⟨y,hye⟩:∃ y,wq b j=y:=⟨_,rfl⟩
     rw [hye] at hyj hy HYD
     have hu:=HWS.out.lt (i+j) (by omega)
     have cn:wr.cell? ⟨g+1+1+1+1,i+j,none⟩=some (.int .u64 ((l2.getD (i+j) 0:Nat):Int)):=by rw [cell_of_row _ _ _ _ _ _ HI.out.rows.head,wsA_get _ _ (by rw [HWS.out.len];omega)]
     have fz:=HI.out.fz (i+j)
     obtain ⟨z,d,HM,em,lz,ld⟩:=scword_ex x y (l2.getD (i+j) 0) cc HX.out (by unfold Q64 at hy;exact hy) (by unfold Q64 at hu;exact hu) HC.out
     have HV2:Hid (vQ (l2.set (i+j) z)+d*(Q64^i*Q64^(j+1))=N0+x*(b % Q64^(j+1))*Q64^i):=yh (by
      have hs:=vQ_set l2 (i+j) z (by rw [HWS.out.len];omega)
      rw [Nat.pow_add] at hs
      rw [HYD.out,Nat.pow_succ,← Nat.mul_assoc (Q64^i)]
      exact mul_wd em hs HV.out)
     have HWS2:=yh (HWS.out.set (i+j) z (by unfold Q64;exact lz))
     have HZ2:Hid ((l2.set (i+j) z).getD (i+4) 0=0):=yh (by
      rw [List.getD_eq_getElem?_getD,List.getElem?_set,if_neg (by omega),← List.getD_eq_getElem?_getD];exact HZ4.out)
     have HC2:=yh ld
     have HI2:Hid (Lp w (wr.setCell ⟨g+1+1+1+1,i+j,none⟩ (.int .u64 (z:Int))) (g+1+1+1+1) (wsA (l2.set (i+j) z)) 88 [(g+1+1+1,z8,88),(g+1,WB,76),(g,WA,76)]):=yh (by
      rw [← wsA_set]
      exact HI.out.set (i+j) _)
     generalize l2.getD (i+j) 0=u at *
     have e1:(i:Int)+(j:Int)=((i+j:Nat):Int):=by omega
     have e2:IntKind.i64.wrap ((i+j:Nat):Int)=((i+j:Nat):Int):=by rw [IntKind.wrap_i64];omega
     have e8:decide ((j:Int)<4)=true:=decide_eq_true (by omega)
     have b7:0≤(j:Int):=by omega
     have b8:(j:Int)<4:=by omega
     have b9:0≤((i+j:Nat):Int):=by omega
     have b10:((i+j:Nat):Int)<8:=by omega
     generalize hij2:i+j=ij at *
     have HJ:=yh hj
     have HLT2:=yh hlt2
     clear HI HWS HZ4 HC HV hy hye hu em lz ld hij hij2 hj hlt2
     go_wp2_with fail
     with_reducible refine (HM.out _).mono ?_
     rintro e w' ⟨rfl,rfl⟩
     go_wp2_with fail
     go_roundw
     case rel=>exact ⟨j+1,_,d,by have:=HLT2.out;omega,by go_num,rfl,HWS2,HZ2,HC2,HV2,HI2⟩
     case measure=>have:=HLT2.out;simp [intOf];omega
    ·have e8:decide ((j:Int)<4)=false:=decide_eq_false (by omega)
     obtain rfl:j=4:=by omega
     have hij:=HLT.out
     have e1:(i:Int)+4=((i+4:Nat):Int):=by omega
     have e2:IntKind.i64.wrap ((i+4:Nat):Int)=((i+4:Nat):Int):=by rw [IntKind.wrap_i64];omega
     have b9:0≤((i+4:Nat):Int):=by omega
     have b10:((i+4:Nat):Int)<8:=by omega
     have fz:=HI.out.fz (i+4)
     have cn:wr.cell? ⟨g+1+1+1+1,i+4,none⟩=some (.int .u64 ((l2.getD (i+4) 0:Nat):Int)):=by rw [cell_of_row _ _ _ _ _ _ HI.out.rows.head,wsA_get _ _ (by rw [HWS.out.len];omega)]
     have HV2:Hid (vQ (l2.set (i+4) cc)=a % Q64^(i+1)*b+c):=yh (by
      have hs:=vQ_set l2 (i+4) cc (by rw [HWS.out.len];omega)
      rw [HZ4.out,Nat.zero_mul,Nat.add_zero,Nat.pow_add] at hs
      rw [hs,HV.out,HB4.out,HNV.out,HXD.out,Nat.add_mul]
      have:x*b*Q64^i=x*Q64^i*b:=by rw [Nat.mul_assoc,Nat.mul_comm b,← Nat.mul_assoc]
      omega)
     have HWS2:=yh (HWS.out.set (i+4) cc (by unfold Q64;exact HC.out))
     have HI2:Hid (Lp w (wr.setCell ⟨g+1+1+1+1,i+4,none⟩ (.int .u64 (cc:Int))) (g+1+1+1+1) (wsA (l2.set (i+4) cc)) 88 [(g+1+1+1,z8,88),(g+1,WB,76),(g,WA,76)]):=yh (by
      rw [← wsA_set]
      exact HI.out.set (i+4) _)
     generalize l2.getD (i+4) 0=u at *
     generalize hi4:i+4=i4 at *
     clear HI HWS HZ4 HC HV hij hi4 hlt2 hj
     go_wp2_with fail
     go_roundw
     case rel=>exact ⟨i+1,_,by have:=HLT.out;omega,by go_num,HWS2,HV2,HI2⟩
     case measure=>have:=HLT.out;simp [intOf];omega
  ·have e7:decide ((i:Int)<4)=false:=decide_eq_false (by omega)
   obtain rfl:i=4:=by omega
   rw [HOUT.out l HWS.out (by rw [HV.out,HEND.out])] at HI
   have h1:=HI.out.rows.head
   have h0:=HI.out.rows.tail.head
   have HB:Hid (Below w.heap.size w (wr.setRow (g+1+1+1) OUT)):=yh (zad HI.out.below (by rw [HG.out];omega))
   clear HI HV HWS hlt
   go_wp2_with (first
    | (refine yi h1 Tryz.underlying88 iO ?_)
    | (refine yj OUT h0 iO sO oO ?_))
   (try simp only [Exit.inBlock,Exit.then])
   refine bodyPost_ret (results_cell_row rfl _ _ (g+1+1+1) _ OUT _ _ rfl (setRow_heap _ _ _ _ _ _ h0) Tryz.underlying88 rfl iO) rfl ?_
   exact ⟨rfl,HB.out⟩
theorem arr64_info {l:List UInt8} (h:l.length=64):(Tryz.prog.info? 24).map (·.size)=some (arrB l).size:=by rw [zam,h];kernel_rfl
theorem scCan_any (l:List UInt8) (hl:l.length=32) (w:World):Calls Tryz.prog 36 #[.agg (arrB l)] w (RetV w (.bool (decide (leN l<LL)))):=by
 have hz4:=wd4_zero
 have hV:leN l<Q4:=by have:=leN_lt l;rw [hl] at this;exact this
 have HWD:=yh fun W:World=>scwords_any l hl W
 have HORD:=yh fun W:World=>scorder_any W
 have HMIN:=yh fun W:World=>scminus_any (leN l) LL hV (by decide) W
 have iD:=zaT ((leN l+(Q4-LL)) % Q4)
 have sD:(wdW 4 0).size=(wdW 4 ((leN l+(Q4-LL)) % Q4)).size:=by rw [zaz,zaz]
 have oD:=wdW_one 4 ((leN l+(Q4-LL)) % Q4)
 have iL:=zaf hl
 generalize decide (leN l<LL)=bb at *
 generalize wdW 4 ((leN l+(Q4-LL)) % Q4)=D at *
 generalize wdW 4 (leN l)=NV at *
 generalize wdW 4 LL=NL at *
 generalize wdW 4 0=z4 at *
 generalize arrB l=LA at *
 clear hV hl
 have hr0:RowsW (w.alloc (.cells LA 22)) [(w.heap.size,LA,22)]:=by
  have h:=(RowsW.nil w).box LA 22
  (try simp only [World.size_alloc] at h)
  exact h
 have hb0:Below w.heap.size w (w.alloc (.cells LA 22)):=zab (Below.refl _ _) _
 have HR0:=yh hr0
 have HB0:=yh hb0
 clear hr0 hb0
 have h0:=HR0.out.head
 go_enter Tryz.func36,Tryz.ntmps36
 go_wp2_with (refine yi h0 Tryz.underlying22 iL ?_)
 with_reducible refine (HWD.out _).mono ?_
 rintro e v1 ⟨rfl,hb1⟩
 have HB1:=yh (zaa HB0.out hb1)
 clear hb1 HR0 HB0 h0
 go_wp2_with fail
 with_reducible refine (HORD.out _).mono ?_
 rintro e v2 ⟨rfl,hb2⟩
 have HB2:=yh (zaa HB1.out hb2)
 clear hb2 HB1
 go_wp2_with fail
 with_reducible refine (HMIN.out _).mono ?_
 rintro e v3 ⟨rfl,hb3⟩
 have HB3:=yh (zaa HB2.out hb3)
 clear hb3 HB2
 have h3:(v3.alloc (.cells z4 76)).heap[v3.heap.size]?=some (.cells z4 76 (0,0)):=heap_alloc_new _ _
 have HE:Hid (Below w.heap.size w ((v3.alloc (.cells z4 76)).setRow v3.heap.size D)):=yh (zau HB3.out z4 D 76)
 go_wp2_with (refine yj D h3 iD sD oD ?_)
 go_ret
 exact ⟨rfl,HE.out⟩
theorem arr64_at {l:List UInt8} (h:l.length=64) (i:Nat) (hi:i<64) (u:World):(Instr.index 24 (.agg (arrB l)) (.int .i64 (i:Int))).run Tryz.prog u=.ok (.int .u8 ((l.getD i 0).toNat:Int)) u:=by
 have hu:Tryz.prog.underlying 24=some (.array 64 5):=by kernel_rfl
 have h1:(0:Int)≤(i:Int)∧(i:Int)<((64:Nat):Int):=⟨by omega,by omega⟩
 have hs:(sizeOf 5).run Tryz.prog u=.ok 1 u:=by kernel_rfl
 have hv:=zaN l i (by omega)
 simp [Instr.index,run_underlying hu,asIntOf,h1,hi,go_sem,hs,hv]
theorem scReduce_any (l:List UInt8) (hl:l.length=64) (w:World):Calls Tryz.prog 52 #[.agg (arrB l)] w (RetV w (.agg (bytT (leN l % LL)))):=by
 have hz8:=wd8_zero
 have hzb:=b32_zero
 have HX:Hid (∀ k:Nat,k<64→∀ u,(Instr.index 24 (.agg (arrB l)) (.int .i64 (k:Int))).run Tryz.prog u=.ok (.int .u8 ((l.getD k 0).toNat:Int)) u):=yh fun k hk u=>arr64_at hl k hk u
 have i64:=arr64_info hl
 have HL:=yh hl
 have hV:leN l<Q64^8:=by have:=leN_lt l;rw [hl] at this;exact this
 have HRED:=yh fun W:World=>screduced_any (leN l) hV W
 have HBY:=yh fun W:World=>scbytes_any (leN l % LL) W
 have HZ:Hid (wdW 8 0=wdW 8 (leN (l.take 0))):=yh (by rw [List.take_zero];rfl)
 have iO:=wd8_info (leN l)
 have nB:=zat (l:=leB 32 (leN l % LL)) (zav _ _)
 have oB:=zaq (leB 32 (leN l % LL))
 have iB:=zaf (zav 32 (leN l % LL))
 unfold bytT at *
 obtain ⟨OUT,hOUT⟩:∃ o,arrB (leB 32 (leN l % LL))=o:=⟨_,rfl⟩
 rw [hOUT] at nB oB iB HBY ⊢
 generalize zah=z32 at *
 generalize wdW 4 (leN l % LL)=NR at *
 obtain ⟨BB,hBB⟩:∃ X,arrB l=X:=⟨_,rfl⟩
 rw [hBB] at HX i64 ⊢
 obtain ⟨z8,hz⟩:∃ z,wdW 8 0=z:=⟨_,rfl⟩
 rw [hz] at hz8 HZ
 have hr0:RowsW (((w.alloc (.cells BB 24)).alloc (.cells z32 22)).alloc (.cells z8 88)) [(w.heap.size+1+1,z8,88),(w.heap.size+1,z32,22),(w.heap.size,BB,24)]:=by
  have h:=(((RowsW.nil w).box BB 24).box z32 22).box z8 88
  (try simp only [World.size_alloc] at h)
  exact h
 have hb0:Below w.heap.size w (((w.alloc (.cells BB 24)).alloc (.cells z32 22)).alloc (.cells z8 88)):=zab (zab (zab (Below.refl _ _) _) _) _
 have HR0:=yh hr0
 have HB0:=yh hb0
 clear hr0 hb0
 have hrb:=HR0.out.tail.tail.head
 clear hBB hz hl hV hOUT
 go_enter Tryz.func52,Tryz.ntmps52
 go_wp2_with (refine yi hrb Tryz.underlying24 i64 ?_)
 clear hrb
 obtain ⟨W1,hW1⟩:∃ W,(((w.alloc (.cells BB 24)).alloc (.cells z32 22)).alloc (.cells z8 88))=W:=⟨_,rfl⟩
 rw [hW1] at HR0 HB0
 rw [hW1]
 obtain ⟨g,hg⟩:∃ g,w.heap.size=g:=⟨_,rfl⟩
 rw [hg] at HR0
 rw [hg]
 have HG:=yh hg
 clear hg
 clear hW1
 have HI:Hid (Lp w W1 (g+1+1) (wdW 8 (leN (l.take 0))) 88 [(g+1,z32,22)]):=yh ⟨by rw [← HZ.out];exact ⟨HR0.out.head,HR0.out.tail.head,trivial⟩,by rw [HG.out];omega,by simp,HB0.out⟩
 clear HR0 HB0 HZ
 go_loopw [7] (fun i wr=>∃ k:Nat,k≤64∧i=.int .i64 (k:Int)∧Hid (Lp w wr (g+1+1) (wdW 8 (leN (l.take k))) 88 [(g+1,z32,22)])) (fun i _=>64-(intOf i).toNat)
 case atStart=>exact ⟨0,by omega,rfl,HI⟩
 case round =>
  clear HI
  obtain ⟨k,hk,rfl,HI⟩:=hrel
  by_cases hlt:k<64
  ·have hx:=HX.out k hlt
   obtain ⟨b,hb⟩:∃ b,(l.getD k 0).toNat=b:=⟨_,rfl⟩
   have hbl:b<256:=by rw [← hb];exact (l.getD k 0).toNat_lt
   obtain ⟨n,hn⟩:∃ n,leN (l.take k)=n:=⟨_,rfl⟩
   have hnl:n<256^k:=by rw [← hn];exact leN_take_lt l k (by rw [HL.out];omega)
   have hn1:leN (l.take (k+1))=n+b*256^k:=by rw [leN_take l k (by rw [HL.out];omega),hn,hb]
   obtain ⟨s1,s2,s3,s4⟩:=wd_step n b k hnl hbl
   have hd4:k/8<8:=by omega
   rw [hn] at HI
   rw [hb] at hx
   obtain ⟨d,hd⟩:∃ d,k/8=d:=⟨_,rfl⟩
   obtain ⟨r,hr⟩:∃ r,k % 8=r:=⟨_,rfl⟩
   obtain ⟨e,he⟩:∃ e,r*8=e:=⟨_,rfl⟩
   rw [hd,hr,he] at s1 s3
   rw [hr,he] at s2
   rw [hd] at s4
   rw [hd] at hd4
   have hel:e<57:=by omega
   have hs4:=wdW_set 8 n (n+b*256^k) d hd4 (fun j _ hne=>s4 j hne)
   rw [s3] at hs4
   have cz:wr.cell? ⟨g+1+1,d,none⟩=some (.int .u64 (wq n d:Int)):=by rw [cell_of_row _ _ _ _ _ _ HI.out.rows.head,wdW_get _ _ _ hd4]
   have fx:=HI.out.fz d
   have hw:=wq_lt n d
   have f7:=or_low (wq n d) b e s1 hw s2
   have HI2:Hid (Lp w (wr.drew.setCell ⟨g+1+1,d,none⟩ (.int .u64 ((wq n d+2^e*b:Nat):Int))) (g+1+1) (wdW 8 (leN (l.take (k+1)))) 88 [(g+1,z32,22)]):=yh (by
    rw [hn1,← hs4]
    exact (HI.out.drew).set d _)
   have f6:IntKind.u64.wrap ((b:Int)*2^e)=((2^e*b:Nat):Int):=by
    rw [IntKind.wrap_u64,show (b:Int)*2^e=((2^e*b:Nat):Int) by rw [Int.natCast_mul,Int.mul_comm];simp]
    unfold Q64 at s2
    omega
   generalize 2^e*b=m at *
   obtain ⟨o,ho⟩:∃ o,wq n d+m=o:=⟨_,rfl⟩
   rw [ho] at f7 HI2
   generalize wq n d=q at *
   have f1:(k:Int).tdiv 8=(d:Int):=by rw [Int.tdiv_eq_ediv_of_nonneg (by omega)];omega
   have f1':(k:Int)/8=(d:Int):=by omega
   have f2:IntKind.i64.wrap (d:Int)=(d:Int):=by rw [IntKind.wrap_i64];omega
   have f3:(k:Int).tmod 8=(r:Int):=by rw [Int.tmod_eq_emod_of_nonneg (by omega)];omega
   have f3':(k:Int) % 8=(r:Int):=by omega
   have f4:(r:Int)*8=(e:Int):=by omega
   have f5:IntKind.i64.wrap (e:Int)=(e:Int):=by rw [IntKind.wrap_i64];omega
   have f8:IntKind.u64.wrap (b:Int)=(b:Int):=by rw [IntKind.wrap_u64];omega
   have b1:0≤(d:Int):=by omega
   have b2:(d:Int)<8:=by omega
   have b3:0≤(e:Int):=by omega
   have b5:0≤(k:Int):=by omega
   have b6:(k:Int)<64:=by omega
   clear HI hb hbl hn hnl hn1 s1 s2 s3 s4 hd hr he hs4 hw ho
   go_wp2_with fail
   refine wp_region_still_tail 11 (by kernel_rfl) (by kernel_rfl) ?_
   simp only [List.take_succ_cons,List.take_zero,List.drop_succ_cons,List.drop_zero]
   iterate 11 still_step
   refine wpStill_nil ?_
   go_wp2_with fail
   go_roundw
   case rel=>exact ⟨k+1,by omega,by go_num,HI2⟩
   case measure=>simp [intOf];omega
  ·obtain rfl:k=64:=by omega
   have hV:l.take 64=l:=List.take_of_length_le (by rw [HL.out];omega)
   rw [hV] at HI
   generalize wdW 8 (leN l)=N8 at *
   have h1:=HI.out.rows.head
   clear hV hlt hk
   go_wp2_with (refine yi h1 Tryz.underlying88 iO ?_)
   with_reducible refine (HRED.out _).mono ?_
   rintro e v1 ⟨rfl,hb1⟩
   have HI1:=yh (HI.out.call hb1)
   clear hb1 HI h1
   go_wp2_with fail
   with_reducible refine (HBY.out _).mono ?_
   rintro e v2 ⟨rfl,hb2⟩
   have HI2:=yh (HI1.out.call hb2)
   clear hb2 HI1
   have h0:=HI2.out.rows.tail.head
   have HE:Hid (Below w.heap.size w (v2.setRow (g+1) OUT)):=yh (zad HI2.out.below (by rw [HG.out];omega))
   go_wp2_with (refine yj OUT h0 iB nB oB ?_)
   (try simp only [Exit.inBlock,Exit.then])
   refine bodyPost_ret (results_cell_row rfl _ _ (g+1) _ OUT _ _ rfl (setRow_heap _ _ _ _ _ _ h0) Tryz.underlying22 rfl iB) rfl ?_
   exact ⟨rfl,HE.out⟩
theorem scMulAdd_any (l m n:List UInt8) (hl:l.length=32) (hm:m.length=32) (hn:n.length=32) (w:World):Calls Tryz.prog 25 #[.agg (arrB l),.agg (arrB m),.agg (arrB n)] w (RetV w (.agg (bytT ((leN l*leN m+leN n) % LL)))):=by
 have hzb:=b32_zero
 have h1:leN l<Q4:=by have:=leN_lt l;rw [hl] at this;exact this
 have h2:leN m<Q4:=by have:=leN_lt m;rw [hm] at this;exact this
 have h3:leN n<Q4:=by have:=leN_lt n;rw [hn] at this;exact this
 have HW1:=yh fun W:World=>scwords_any l hl W
 have HW2:=yh fun W:World=>scwords_any m hm W
 have HW3:=yh fun W:World=>scwords_any n hn W
 have HM:=yh fun W:World=>scmuladd_any _ _ _ h1 h2 h3 W
 have h8:leN l*leN m+leN n<Q64^8:=by
  have:=mul_lim h1 h2 h3
  exact this
 have HRED:=yh fun W:World=>screduced_any (leN l*leN m+leN n) h8 W
 have HBY:=yh fun W:World=>scbytes_any ((leN l*leN m+leN n) % LL) W
 have iL:=zaf hl
 have iM:=zaf hm
 have iN:=zaf hn
 have nB:=zat (l:=leB 32 ((leN l*leN m+leN n) % LL)) (zav _ _)
 have oB:=zaq (leB 32 ((leN l*leN m+leN n) % LL))
 have iB:=zaf (zav 32 ((leN l*leN m+leN n) % LL))
 unfold bytT at *
 obtain ⟨OUT,hOUT⟩:∃ o,arrB (leB 32 ((leN l*leN m+leN n) % LL))=o:=⟨_,rfl⟩
 rw [hOUT] at nB oB iB HBY ⊢
 generalize zah=z32 at *
 generalize wdW 8 (leN l*leN m+leN n)=W8 at *
 generalize wdW 4 ((leN l*leN m+leN n) % LL)=NR at *
 generalize wdW 4 (leN l)=N1 at *
 generalize wdW 4 (leN m)=N2 at *
 generalize wdW 4 (leN n)=N3 at *
 generalize arrB l=LA at *
 generalize arrB m=MA at *
 generalize arrB n=NA at *
 clear h1 h2 h3 h8 hl hm hn hOUT
 have hr0:RowsW ((((w.alloc (.cells LA 22)).alloc (.cells MA 22)).alloc (.cells NA 22)).alloc (.cells z32 22)) [(w.heap.size+1+1+1,z32,22),(w.heap.size+1+1,NA,22),(w.heap.size+1,MA,22),(w.heap.size,LA,22)]:=by
  have h:=((((RowsW.nil w).box LA 22).box MA 22).box NA 22).box z32 22
  (try simp only [World.size_alloc] at h)
  exact h
 have hb0:Below w.heap.size w ((((w.alloc (.cells LA 22)).alloc (.cells MA 22)).alloc (.cells NA 22)).alloc (.cells z32 22)):=zab (zab (zab (zab (Below.refl _ _) _) _) _) _
 have HR0:=yh hr0
 have HB0:=yh hb0
 clear hr0 hb0
 go_enter Tryz.func25,Tryz.ntmps25
 go_upto_region 1 with fail
 obtain ⟨W1,hW1⟩:∃ W,((((w.alloc (.cells LA 22)).alloc (.cells MA 22)).alloc (.cells NA 22)).alloc (.cells z32 22))=W:=⟨_,rfl⟩
 rw [hW1] at HR0 HB0
 rw [hW1]
 obtain ⟨g,hg⟩:∃ g,w.heap.size=g:=⟨_,rfl⟩
 rw [hg] at HR0
 rw [hg]
 have HG:=yh hg
 clear hg
 clear hW1
 refine wp_region_noPanic ?_
 refine zag (S:=fun W=>Below W1.heap.size W1 W) 8 (by kernel_rfl) ⟨by kernel_rfl,by kernel_rfl,by kernel_rfl,by kernel_rfl⟩ (by exact (Below.refl _ _).drew) (fun hT inv hS=>?_)
 refine' yT 0 hT inv hS (fun inv=>?_) (hy:=fun W hSW=>zac rfl rfl ((HR0.out.below hSW).tail.tail.tail.head) Tryz.underlying22 rfl iL)
 refine' yT 2 hT inv hS (fun inv=>?_) (hy:=fun W hSW=>zac rfl rfl ((HR0.out.below hSW).tail.tail.head) Tryz.underlying22 rfl iM)
 refine' yT 4 hT inv hS (fun inv=>?_) (hy:=fun W hSW=>zac rfl rfl ((HR0.out.below hSW).tail.head) Tryz.underlying22 rfl iN)
 refine xT 1 inv (fun K hK=>?_)
 go_simp
 with_reducible refine (HW1.out _).mono ?_
 rintro e u1 ⟨rfl,hb1⟩
 have kb1:=zaa hS hb1
 clear hS hb1
 refine hK.out _ _ (by exact kb1) (fun inv hS=>?_)
 clear hK K
 refine xT 3 inv (fun K hK=>?_)
 go_simp
 with_reducible refine (HW2.out _).mono ?_
 rintro e u2 ⟨rfl,hb2⟩
 have kb2:=zaa kb1 hb2
 clear hS hb2
 refine hK.out _ _ (by exact kb2) (fun inv hS=>?_)
 clear hK K
 refine xT 5 inv (fun K hK=>?_)
 go_simp
 with_reducible refine (HW3.out _).mono ?_
 rintro e u3 ⟨rfl,hb3⟩
 have kb3:=zaa kb2 hb3
 clear hS hb3
 refine hK.out _ _ (by exact kb3) (fun inv hS=>?_)
 clear hK K
 refine xT 6 inv (fun K hK=>?_)
 go_simp
 with_reducible refine (HM.out _).mono ?_
 rintro e u4 ⟨rfl,hb4⟩
 have kb4:=zaa kb3 hb4
 clear hS hb4
 refine hK.out _ _ (by exact kb4) (fun inv hS=>?_)
 clear hK K
 refine xT 7 inv (fun K hK=>?_)
 go_simp
 with_reducible refine (HRED.out _).mono ?_
 rintro e u5 ⟨rfl,hb5⟩
 have kb5:=zaa kb4 hb5
 clear hS hb5
 refine hK.out _ _ (by exact kb5) (fun inv hS=>?_)
 clear hK K
 refine zaE (by kernel_rfl) ?_
 simp only [List.drop_succ_cons,List.drop_zero]
 clear hS
 (try simp only [Act.put])
 have HR2:=yh (HR0.out.below kb5)
 have HB2:=yh (zaa HB0.out kb5)
 clear kb1 kb2 kb3 kb4 kb5
 go_wp2_with fail
 with_reducible refine (HBY.out _).mono ?_
 rintro e w2 ⟨rfl,hb2⟩
 have hr2:=(HR2.out.below hb2).head
 have HE:Hid (Below w.heap.size w (w2.setRow (g+1+1+1) OUT)):=yh (zad (zaa HB2.out hb2) (by rw [HG.out];omega))
 clear hb2
 go_wp2_with (refine yj OUT hr2 iB nB oB ?_)
 (try refine NoPanic.normal ?_)
 go_wp2_with fail
 (try simp only [Exit.inBlock,Exit.then])
 refine bodyPost_ret (results_cell_row rfl _ _ (g+1+1+1) _ OUT _ _ rfl (setRow_heap _ _ _ _ _ _ hr2) Tryz.underlying22 rfl iB) rfl ?_
 exact ⟨rfl,HE.out⟩
theorem dom_cells1:((domB++[1]).map bval).toArray=#[.int .u8 83,.int .u8 105,.int .u8 103,.int .u8 69,.int .u8 100,.int .u8 50,.int .u8 53,.int .u8 53,.int .u8 49,.int .u8 57,.int .u8 32,.int .u8 110,.int .u8 111,.int .u8 32,.int .u8 69,.int .u8 100,.int .u8 50,.int .u8 53,.int .u8 53,.int .u8 49,.int .u8 57,.int .u8 32,.int .u8 99,.int .u8 111,.int .u8 108,.int .u8 108,.int .u8 105,.int .u8 115,.int .u8 105,.int .u8 111,.int .u8 110,.int .u8 115,.int .u8 1]:=by simp [domB,bval]
theorem eprefix_any (C:Option Addr) (c:List UInt8) (n k:Nat) (hn:c.length=n) (hl:c.length≤1000) (w:World) (hc:Bs w C c):Calls Tryz.prog 12 #[.slice C n k] w (RetOb 5 w (prefB c)):=by
 by_cases hb:255<n
 ·have d1:decide ((255:Int)<(n:Int))=true:=decide_eq_true (by omega)
  have hp:prefB c=[]:=by unfold prefB;rw [if_pos (by omega)]
  rw [hp]
  clear hn hc hp hl
  go_enter Tryz.func12,Tryz.ntmps12
  go_wp2_with fail
  go_ret
  exact ⟨_,rfl,Ob.nil_ _ _ _,Below.refl _ _⟩
 ·have d1:decide ((255:Int)<(n:Int))=false:=decide_eq_false (by omega)
  have hp:prefB c=domB++[1]++[UInt8.ofNat n]++c:=by unfold prefB;rw [if_neg (by omega),hn,List.append_assoc domB];rfl
  rw [hp]
  have HN:=yh hn
  have HC:=yh hc
  have HLC:=yh hl
  have hw8:IntKind.u8.wrap (n:Int)=(n:Int):=by rw [IntKind.wrap_u8];omega
  obtain ⟨i0,hi,hz0,hz1,hz2⟩:=info_parts info5
  have hcv:(convert 23 23 (.slice (some ⟨w.heap.size,0,none⟩) 33 33)).run Tryz.prog (w.alloc (.cells #[.int .u8 83,.int .u8 105,.int .u8 103,.int .u8 69,.int .u8 100,.int .u8 50,.int .u8 53,.int .u8 53,.int .u8 49,.int .u8 57,.int .u8 32,.int .u8 110,.int .u8 111,.int .u8 32,.int .u8 69,.int .u8 100,.int .u8 50,.int .u8 53,.int .u8 53,.int .u8 49,.int .u8 57,.int .u8 32,.int .u8 99,.int .u8 111,.int .u8 108,.int .u8 108,.int .u8 105,.int .u8 115,.int .u8 105,.int .u8 111,.int .u8 110,.int .u8 115,.int .u8 1] 5))=.ok (.slice (some ⟨w.heap.size,0,none⟩) 33 33) (w.alloc (.cells #[.int .u8 83,.int .u8 105,.int .u8 103,.int .u8 69,.int .u8 100,.int .u8 50,.int .u8 53,.int .u8 53,.int .u8 49,.int .u8 57,.int .u8 32,.int .u8 110,.int .u8 111,.int .u8 32,.int .u8 69,.int .u8 100,.int .u8 50,.int .u8 53,.int .u8 53,.int .u8 49,.int .u8 57,.int .u8 32,.int .u8 99,.int .u8 111,.int .u8 108,.int .u8 108,.int .u8 105,.int .u8 115,.int .u8 105,.int .u8 111,.int .u8 110,.int .u8 115,.int .u8 1] 5 (33,34))):=Lib.run_convert_bytes_const w 23 5 #[.int .u8 83,.int .u8 105,.int .u8 103,.int .u8 69,.int .u8 100,.int .u8 50,.int .u8 53,.int .u8 53,.int .u8 49,.int .u8 57,.int .u8 32,.int .u8 110,.int .u8 111,.int .u8 32,.int .u8 69,.int .u8 100,.int .u8 50,.int .u8 53,.int .u8 53,.int .u8 49,.int .u8 57,.int .u8 32,.int .u8 99,.int .u8 111,.int .u8 108,.int .u8 108,.int .u8 105,.int .u8 115,.int .u8 105,.int .u8 111,.int .u8 110,.int .u8 115,.int .u8 1] 33 33 Tryz.underlying23 Tryz.underlying5
  obtain ⟨w1,hw1⟩:∃ w1,w.alloc (.cells #[.int .u8 83,.int .u8 105,.int .u8 103,.int .u8 69,.int .u8 100,.int .u8 50,.int .u8 53,.int .u8 53,.int .u8 49,.int .u8 57,.int .u8 32,.int .u8 110,.int .u8 111,.int .u8 32,.int .u8 69,.int .u8 100,.int .u8 50,.int .u8 53,.int .u8 53,.int .u8 49,.int .u8 57,.int .u8 32,.int .u8 99,.int .u8 111,.int .u8 108,.int .u8 108,.int .u8 105,.int .u8 115,.int .u8 105,.int .u8 111,.int .u8 110,.int .u8 115,.int .u8 1] 5 (33,34))=w1:=⟨_,rfl⟩
  have hb1:Below w.heap.size w w1:=by rw [← hw1];exact (Below.refl _ _).alloc (Nat.le_refl _) _
  have hw1s:w1.heap.size=w.heap.size+1:=by rw [← hw1,World.size_alloc]
  have b1:Bs w1 (some ⟨w.heap.size,0,none⟩) (domB++[1]):=fun _=>⟨_,0,rfl,fun j hj=>by
   have hj2:j<33:=hj
   rw [← hw1,Nat.zero_add,World.cell?_alloc_mark,← dom_cells1]
   rw [List.getElem?_toArray,List.getElem?_map,List.getElem?_eq_getElem hj]
   simp [bval,List.getD,List.getElem?_eq_getElem hj]⟩
  have e2:(([UInt8.ofNat n]:List UInt8).map bval).toArray=#[.int .u8 (n:Int)]:=by
   have:(UInt8.ofNat n).toNat=n:=by simp;omega
   simp [bval,this]
  have o2:=ob_lit w1 [UInt8.ofNat n] 1 rfl (by omega)
  rw [e2] at o2
  have hb2:Below w1.heap.size w1 (w1.alloc (.cells #[.int .u8 (n:Int)] 5)):=(Below.refl _ _).alloc (Nat.le_refl _) _
  have b2:=o2.bs
  rw [hw1s] at b2
  have B1:=yh (b1.below hb2)
  have B2:=yh b2
  have HBB:=yh (zaa hb1 hb2)
  have HW1:=yh hw1
  clear hn hc hp hl o2 hb1 hb2 b1 b2 hw1 hw1s e2 hb
  go_enter Tryz.func12,Tryz.ntmps12
  go_wp2_with (first
   | (at_builtin;refine zaS rfl (.tmp 15) (.tmp 16) 23 rfl w.heap.size 5 Tryz.underlying23 info5 _ _ rfl O3.out C c n k rfl HN.out.symm (HC.out.below kb3) (by simp [domB];have:=HLC.out;omega) kb3.size ?_;intro v4 w4 ho4 hgr4;have O4:=yh ho4;have kb4:Below w.heap.size w w4:=kb3.grown hgr4 kb3.size (fun k hk=>by obtain ⟨A',c',e',_,hf⟩:=O3.out.form;subst e';exact O3.out.fresh k (own_at hk));clear ho4 hgr4)
   | (at_builtin;refine wpList_append_grows _ rfl (.tmp 9) (.tmp 13) 23 rfl 5 i0 (.int .u8 0) 1 1 Tryz.underlying23 hi hz0 hz1 hz2 rfl (by decide) (some ⟨w.heap.size,0,none⟩) 33 33 ((domB++[1]).map bval) rfl (by intro h;cases h) rfl (fun b hb=>by injection hb with hb;subst hb;rw [HW1.out];exact B1.out.news) ⟨w.heap.size+1,0,none⟩ 1 1 ([UInt8.ofNat n].map bval) rfl rfl (by rw [HW1.out];exact B2.out.news) (by intro u hu;simp only [List.map_cons,List.map_nil,List.mem_cons,List.not_mem_nil,or_false] at hu;rcases hu with rfl;rfl) (by decide) (by unfold maxLen;omega) (by omega) ?_;intro v3 w3 ho3 hgr3;rw [HW1.out] at ho3 hgr3;have kb3:Below w.heap.size w w3:=zaa HBB.out (below_of_grown hgr3);have O3:Hid (Ob 5 w3 w.heap.size v3 (domB++[1]++[UInt8.ofNat n])):=yh (Ob.low (base:=_) (by unfold Ob;rw [List.map_append,List.length_append];exact ho3) HBB.out.size);clear ho3 hgr3))
  go_ret
  exact ⟨_,rfl,O4.out,kb4⟩
theorem RowAt.below {W W':World} {P:Option Addr} {rows:BRow} (h:RowAt W P rows) (hb:Below W.heap.size W W'):RowAt W' P rows :=
 ⟨fun hp=>by
  obtain ⟨b,o,e,hc⟩:=h.cell hp
  exact ⟨b,o,e,fun i r hi=>by rw [hb.cell (World.block_lt_of_cell? _ _ (hc i r hi))];exact hc i r hi⟩,fun r hr=>⟨(h.row r hr).1.below hb,(h.row r hr).2⟩⟩
theorem rowAt_laid {W:World} {g:Nat} {cs:Array Value} {T:TypeId} {fr:Nat × Nat} {rows:BRow} (hg:W.heap[g]?=some (.cells cs T fr)) (hc:∀ (i:Nat) (r:Option Addr × List UInt8 × Nat),rows[i]?=some r→cs[i]?=some (Value.slice r.1 r.2.1.length r.2.2)) (hr:∀ r ∈ rows,Bs W r.1 r.2.1∧r.2.1.length≤r.2.2):RowAt W (some ⟨g,0,none⟩) rows :=
 ⟨fun _=>⟨g,0,rfl,fun i r h=>by rw [Nat.zero_add,cell_of_row _ _ _ _ _ _ hg];exact hc i r h⟩,hr⟩
theorem enumber_any (P:Option Addr) (rows:BRow) (N c:Nat) (hN:rows.length=N) (hc:N≤c) (hn:N≤10) (hl:(rowsB rows).length≤10000) (w:World) (hr:RowAt w P rows) :
  Calls Tryz.prog 24 #[.slice P N c] w (RetV w (.agg (bytT (leN (zaW (rowsB rows)) % LL)))):=by
 subst hN
 have hzb:=b32_zero
 have HOF:=yh fun (W:World) (hb:Below w.heap.size w W)=>hof_any W P rows c (hr.below hb) hc hn hl
 have hdl:=digest_lenE (rowsB rows)
 generalize zaW (rowsB rows)=D at *
 have HRD:=yh fun W:World=>scReduce_any D hdl W
 have nB:=zat (l:=leB 32 (leN D % LL)) (zav _ _)
 have oB:=zaq (leB 32 (leN D % LL))
 have iB:=zaf (zav 32 (leN D % LL))
 unfold bytT at *
 obtain ⟨OUT,hOUT⟩:∃ o,arrB (leB 32 (leN D % LL))=o:=⟨_,rfl⟩
 rw [hOUT] at nB oB iB HRD ⊢
 generalize zah=z32 at *
 obtain ⟨N,hN⟩:∃ N,rows.length=N:=⟨_,rfl⟩
 rw [hN] at HOF ⊢
 have HR0:=yh ((RowsW.nil w).box z32 22)
 have HB0:Hid (Below w.heap.size w (w.alloc (.cells z32 22))):=yh (zab (Below.refl _ _) _)
 clear hOUT hdl hr hc hn hl hN
 go_enter Tryz.func24,Tryz.ntmps24
 go_wp2_with fail
 with_reducible refine (HOF.out _ HB0.out).mono ?_
 rintro e v1 ⟨rfl,hb1⟩
 have HR1:=yh (HR0.out.below hb1)
 have HB1:=yh (zaa HB0.out hb1)
 clear hb1 HR0 HB0
 go_wp2_with fail
 with_reducible refine (HRD.out _).mono ?_
 rintro e v2 ⟨rfl,hb2⟩
 have hr2:=(HR1.out.below hb2).head
 have HE:Hid (Below w.heap.size w (v2.setRow w.heap.size OUT)):=yh (zad (zaa HB1.out hb2) (Nat.le_refl _))
 clear hb2
 go_wp2_with (refine yj OUT hr2 iB nB oB ?_)
 (try simp only [Exit.inBlock,Exit.then])
 refine bodyPost_ret (results_cell_row rfl _ _ (w.heap.size) _ OUT _ _ rfl (setRow_heap _ _ _ _ _ _ hr2) Tryz.underlying22 rfl iB) rfl ?_
 exact ⟨rfl,HE.out⟩
theorem Ob.none {E:TypeId} {w:World} {base g n c:Nat} {l:List UInt8} (h:Ob E w base (.slice (some ⟨g,0,none⟩) n c) l):Ob E w base (.slice (some ⟨g,0,none⟩) 0 c) []:=by
 refine ⟨rfl,?_⟩
 rcases h.2 with ⟨e,_⟩ | ⟨g',cap,cur,e,hb,hg,hnc,hcm,hcs,ht⟩
 ·cases e
 ·injection e with e1 e2 e3
  injection e1 with e1
  injection e1 with e1
  subst e1
  subst e3
  exact .inr ⟨g,c,cur,rfl,hb,hg,Nat.zero_le _,hcm,hcs,by simp⟩
theorem egrow_any (k:Nat) (hk0:0<k) (hk:k≤10000) (w:World):Calls Tryz.prog 56 #[.slice none 0 0,.int .i64 (k:Int)] w fun e w'=>∃ g c,e=.returned (.slice (some ⟨g,0,none⟩) 0 c)∧Ob 5 w' w.heap.size (.slice (some ⟨g,0,none⟩) 0 c) []∧Below w.heap.size w w':=by
 have hs0:∀ u:World,(Instr.slice 23 (.slice none 0 0) none (some (.int .i64 0)) none).run Tryz.prog u=.ok (.slice none 0 0) u:=fun u=>slice_head none 0 0 0 (Nat.le_refl _) u
 have p1:IntKind.i64.wrap (k:Int)=(k:Int):=by rw [IntKind.wrap_i64];omega
 have p2:¬ ((k:Int)<0):=by omega
 have p3:(0:Int)<(k:Int):=by omega
 have p4:(k:Int)-0=(k:Int):=by omega
 have HK:=yh hk
 have HK0:=yh hk0
 clear hk hk0
 go_enter Tryz.func56,Tryz.ntmps56
 go_wp2_with (at_builtin;refine wpList_append_zeros rfl (.tmp 20) (.tmp 21) rfl w.heap.size (.slice none 0 0) [] rfl (Ob.nil_ _ _ _) k rfl (by have:=HK.out;simp;omega) (Nat.le_refl _) ?_;intro v1 w1 ho1 hgr1;rw [List.nil_append] at ho1;obtain ⟨g1,c1,-,rfl,-,-,-⟩:=ho1.rowN (n:=k) List.length_replicate HK0.out;have kb1:Below w.heap.size w w1:=below_of_grown hgr1;have hs1:∀ u:World,(Instr.slice 23 (.slice (some ⟨g1,0,none⟩) k c1) none (some (.int .i64 0)) none).run Tryz.prog u=.ok (.slice (some ⟨g1,0,none⟩) 0 c1) u:=fun u=>slice_head _ k c1 0 (Nat.zero_le _) u;have O1:=yh ho1.none;clear ho1 hgr1)
 go_ret
 exact ⟨_,_,rfl,O1.out,kb1⟩
theorem econcat_any (P:Option Addr) (rows:BRow) (N c:Nat) (hN:rows.length=N) (hc:N≤c) (hn:N≤10) (hl0:0<(rowsB rows).length) (hl:(rowsB rows).length≤10000) (w:World) (hr:RowAt w P rows) :
  Calls Tryz.prog 26 #[.slice P N c] w (RetOb 5 w (rowsB rows)):=by
 have HROW:Hid (∀ (i:Nat) (W:World),Below w.heap.size w W→i<N→∃ b o A l c',P=some ⟨b,o,none⟩∧rows[i]?=some (A,l,c')∧W.cell? ⟨b,o+i,none⟩=some (.slice A l.length c')∧Bs W A l∧l.length≤c'):=yh fun i W hb hi=>by
  obtain ⟨b,o,e,hcl⟩:=hr.cell (by omega)
  have hg:rows[i]?=some rows[i]:=List.getElem?_eq_getElem (by omega)
  obtain ⟨h1,h2⟩:=hr.row _ (List.mem_of_getElem? hg)
  refine ⟨b,o,rows[i].1,rows[i].2.1,rows[i].2.2,e,hg,?_,h1.below hb,h2⟩
  have hcc:=hcl i _ hg
  rw [hb.cell (World.block_lt_of_cell? _ _ hcc)]
  exact hcc
 have HALL:Hid (rows.take N=rows):=yh (by rw [← hN];exact List.take_length)
 have HSUM:Hid (∀ i A l c',rows[i]?=some (A,l,c')→(rowsB (rows.take i)).length+l.length=(rowsB (rows.take (i+1))).length∧(rowsB (rows.take i)).length+l.length≤10000):=yh fun i A l c' hi=>by
  have h1:=rowsB_take rows i _ hi
  have h2:=rowsB_le rows i _ hi
  simp only at h1 h2
  exact ⟨by rw [h1,List.length_append],by omega⟩
 have HAPP:Hid (∀ i A l c',rows[i]?=some (A,l,c')→rowsB (rows.take i)++l=rowsB (rows.take (i+1))):=yh fun i A l c' hi=>(rowsB_take rows i _ hi).symm
 obtain ⟨S,hS⟩:∃ S,(rowsB rows).length=S:=⟨_,rfl⟩
 have HSL:Hid ((rowsB (rows.take N)).length=S):=yh (by rw [HALL.out];exact hS)
 rw [hS] at hl hl0
 have HGR:=yh fun W:World=>egrow_any S hl0 hl W
 have hN10:N≤10:=hn
 clear hr hc hN hS hl hl0 hn
 go_enter Tryz.func26,Tryz.ntmps26
 go_wp2_with fail
 go_loopw [3,11] (fun s i wr=>∃ k:Nat,k≤N∧i=.int .i64 (k:Int)∧s=.int .i64 ((rowsB (rows.take k)).length:Int)∧Hid (Below w.heap.size w wr)) (fun _ i _=>N-(intOf i).toNat)
 case atStart=>exact ⟨0,by omega,rfl,by simp [rowsB],yh (Below.refl _ _)⟩
 case round =>
  obtain ⟨k,hk,rfl,rfl,HB⟩:=hrel
  by_cases hlt:k<N
  ·obtain ⟨b,o,A,l,c',rfl,hri,hcell,-,hlc⟩:=HROW.out k wr HB.out hlt
   have HS1:=yh (HSUM.out k A l c' hri)
   have p1:(k:Int)<(N:Int):=by omega
   have p2:0≤(k:Int):=by omega
   have e1:(o:Int)+(k:Int)=((o+k:Nat):Int):=by omega
   obtain ⟨L,hL⟩:∃ L,l.length=L:=⟨_,rfl⟩
   obtain ⟨s,hs⟩:∃ s,(rowsB (rows.take k)).length=s:=⟨_,rfl⟩
   obtain ⟨t,ht⟩:∃ t,(rowsB (rows.take (k+1))).length=t:=⟨_,rfl⟩
   rw [hL,hs,ht] at HS1
   rw [hL] at hcell
   have q1:IntKind.i64.wrap ((s:Int)+(L:Int))=(t:Int):=by rw [IntKind.wrap_i64];have:=HS1.out;omega
   have q2:IntKind.i64.wrap (t:Int)=(t:Int):=by rw [IntKind.wrap_i64];have:=HS1.out;omega
   have q3:¬ ((t:Int)<0):=by omega
   have HLT:=yh hlt
   have HT:=yh ht
   (try rw [hs])
   clear hri hlc hL hlt hs ht
   go_wp2_with fail
   go_roundw
   case rel=>exact ⟨k+1,by have:=HLT.out;omega,by go_num,by rw [HT.out];try rfl,HB⟩
   case measure=>simp [intOf];have:=HLT.out;omega
  ·obtain rfl:k=N:=by omega
   rw [HSL.out]
   clear hk
   go_wp2_with fail
   with_reducible refine (HGR.out _).mono ?_
   rintro e w2 ⟨g2,c2,rfl,ho2,hb2⟩
   have HB2:=yh (zaa HB.out hb2)
   have HO2:Hid (Ob 5 w2 w.heap.size (.slice (some ⟨g2,0,none⟩) 0 c2) []):=yh (ho2.low HB.out.size)
   clear ho2 hb2 HB hlt
   go_wp2_with fail
   go_loopw [6,27] (fun v i wr=>∃ j:Nat,j≤k∧i=.int .i64 (j:Int)∧Hid (Ob 5 wr w.heap.size v (rowsB (rows.take j)))∧Hid (Below w.heap.size w wr)) (fun _ i _=>k-(intOf i).toNat)
   case atStart=>exact ⟨0,by omega,rfl,HO2,HB2⟩
   case round =>
    clear HO2 HB2
    obtain ⟨j,hj,rfl,HO,HB⟩:=hrel
    by_cases hlt:j<k
    ·obtain ⟨b,o,A,l,c',rfl,hri,hcell,hbs,hlc⟩:=HROW.out j wr HB.out hlt
     have HS1:=yh (HSUM.out j A l c' hri).2
     have HAP:=yh (HAPP.out j A l c' hri)
     have p1:(j:Int)<(k:Int):=by omega
     have p2:0≤(j:Int):=by omega
     have e1:(o:Int)+(j:Int)=((o+j:Nat):Int):=by omega
     obtain ⟨L,hL⟩:∃ L,l.length=L:=⟨_,rfl⟩
     rw [hL] at hcell HS1
     have HLL:=yh hL
     have HBS:=yh hbs
     have HLT:=yh hlt
     clear hri hlc hL hlt hbs
     go_wp2_with (at_builtin;refine zaS rfl (.tmp 31) (.tmp 32) 23 rfl w.heap.size 5 Tryz.underlying23 info5 _ (rowsB (rows.take j)) rfl HO.out A l L c' rfl HLL.out.symm HBS.out (by rw [HLL.out];have:=HS1.out;omega) HB.out.size ?_;intro v4 w4 ho4 hgr4;rw [HAP.out] at ho4;have O4:=yh ho4;have HB4:=yh (HB.out.grown hgr4 HB.out.size (fun k hk=>by obtain ⟨A',c',e',_,hf⟩:=HO.out.form;subst e';exact HO.out.fresh k (own_at hk)));clear ho4 hgr4)
     go_roundw
     case rel=>exact ⟨j+1,by have:=HLT.out;omega,by go_num,O4,HB4⟩
     case measure=>simp [intOf];have:=HLT.out;omega
    ·obtain rfl:j=k:=by omega
     have HO3:Hid (Ob 5 wr w.heap.size _ (rowsB rows)):=yh (by have:=HO.out;rw [HALL.out] at this;exact this)
     go_wp2_with fail
     go_ret
     exact ⟨_,rfl,HO3.out,HB.out⟩
theorem enum3 {A B D:Option Addr} {a b d J:List UInt8} {na nb nd ca cb cd:Nat} (ha:a.length=na) (hb:b.length=nb) (hd:d.length=nd) (ka:na≤ca) (kb:nb≤cb) (kd:nd≤cd) (hJ:a++b++d=J) (hl:J.length≤2000) {W:World} {g:Nat} {fr:Nat × Nat}
  (hg:W.heap[g]?=some (.cells #[.slice A na ca,.slice B nb cb,.slice D nd cd] 23 fr)) (ba:Bs W A a) (bb:Bs W B b) (bd:Bs W D d) :
  Calls Tryz.prog 24 #[.slice (some ⟨g,0,none⟩) 3 3] W (RetV W (.agg (bytT (leN (zaW J) % LL)))):=by
 subst ha hb hd
 have e:rowsB [(A,a,ca),(B,b,cb),(D,d,cd)]=J:=by rw [← hJ];simp [rowsB]
 have h:=enumber_any (some ⟨g,0,none⟩) [(A,a,ca),(B,b,cb),(D,d,cd)] 3 3 rfl (Nat.le_refl _) (by omega) (by rw [e];omega) W (rowAt_laid hg (fun i r h=>by
   match i,h with
   | 0,h=>injection h with h;subst h;rfl
   | 1,h=>injection h with h;subst h;rfl
   | 2,h=>injection h with h;subst h;rfl) (fun r h=>by
   simp only [List.mem_cons,List.not_mem_nil,or_false] at h
   rcases h with rfl | rfl | rfl
   ·exact ⟨ba,ka⟩
   ·exact ⟨bb,kb⟩
   ·exact ⟨bd,kd⟩))
 rwa [e] at h
theorem enum4 {A B C D:Option Addr} {a b c d J:List UInt8} {na nb nc nd ca cb cc cd:Nat} (ha:a.length=na) (hb:b.length=nb) (hc:c.length=nc) (hd:d.length=nd) (ka:na≤ca) (kb:nb≤cb) (kc:nc≤cc) (kd:nd≤cd) (hJ:a++b++c++d=J) (hl:J.length≤2000) {W:World} {g:Nat} {fr:Nat × Nat}
  (hg:W.heap[g]?=some (.cells #[.slice A na ca,.slice B nb cb,.slice C nc cc,.slice D nd cd] 23 fr)) (ba:Bs W A a) (bb:Bs W B b) (bc:Bs W C c) (bd:Bs W D d) :
  Calls Tryz.prog 24 #[.slice (some ⟨g,0,none⟩) 4 4] W (RetV W (.agg (bytT (leN (zaW J) % LL)))):=by
 subst ha hb hc hd
 have e:rowsB [(A,a,ca),(B,b,cb),(C,c,cc),(D,d,cd)]=J:=by rw [← hJ];simp [rowsB]
 have h:=enumber_any (some ⟨g,0,none⟩) [(A,a,ca),(B,b,cb),(C,c,cc),(D,d,cd)] 4 4 rfl (Nat.le_refl _) (by omega) (by rw [e];omega) W (rowAt_laid hg (fun i r h=>by
   match i,h with
   | 0,h=>injection h with h;subst h;rfl
   | 1,h=>injection h with h;subst h;rfl
   | 2,h=>injection h with h;subst h;rfl
   | 3,h=>injection h with h;subst h;rfl) (fun r h=>by
   simp only [List.mem_cons,List.not_mem_nil,or_false] at h
   rcases h with rfl | rfl | rfl | rfl
   ·exact ⟨ba,ka⟩
   ·exact ⟨bb,kb⟩
   ·exact ⟨bc,kc⟩
   ·exact ⟨bd,kd⟩))
 rwa [e] at h
theorem econcat2 {A B:Option Addr} {a b:List UInt8} {na nb ca cb:Nat} (ha:a.length=na) (hb:b.length=nb) (ka:na≤ca) (kb:nb≤cb) (h0:0<na) (hl:na+nb≤2000) {W:World} {g:Nat} {fr:Nat × Nat}
  (hg:W.heap[g]?=some (.cells #[.slice A na ca,.slice B nb cb] 23 fr)) (ba:Bs W A a) (bb:Bs W B b) :
  Calls Tryz.prog 26 #[.slice (some ⟨g,0,none⟩) 2 2] W (RetOb 5 W (a++b)):=by
 subst ha hb
 have e:rowsB [(A,a,ca),(B,b,cb)]=a++b:=by simp [rowsB]
 have h:=econcat_any (some ⟨g,0,none⟩) [(A,a,ca),(B,b,cb)] 2 2 rfl (Nat.le_refl _) (by omega) (by rw [e,List.length_append];omega) (by rw [e,List.length_append];omega) W (rowAt_laid hg (fun i r h=>by
   match i,h with
   | 0,h=>injection h with h;subst h;rfl
   | 1,h=>injection h with h;subst h;rfl) (fun r h=>by
   simp only [List.mem_cons,List.not_mem_nil,or_false] at h
   rcases h with rfl | rfl
   ·exact ⟨ba,ka⟩
   ·exact ⟨bb,kb⟩))
 rwa [e] at h
theorem eof1 {A:Option Addr} {a:List UInt8} {na ca:Nat} (ha:a.length=na) (ka:na≤ca) (hl:na≤2000) {W:World} {g:Nat} {fr:Nat × Nat}
  (hg:W.heap[g]?=some (.cells #[.slice A na ca] 23 fr)) (ba:Bs W A a) :
  Calls Tryz.prog 21 #[.slice (some ⟨g,0,none⟩) 1 1] W (RetV W (.agg (arrB (zaW a)))):=by
 subst ha
 have e:rowsB [(A,a,ca)]=a:=by simp [rowsB]
 have h:=hof_any W (some ⟨g,0,none⟩) [(A,a,ca)] 1 (rowAt_laid hg (fun i r h=>by
   match i,h with
   | 0,h=>injection h with h;subst h;rfl) (fun r h=>by
   simp only [List.mem_cons,List.not_mem_nil,or_false] at h
   subst h
   exact ⟨ba,ka⟩)) (Nat.le_refl _) (by simp) (by rw [e];omega)
 rwa [e] at h
theorem sl64_lo (g:Nat) (u:World):(Instr.sliceAt 24 (.pointer (some ⟨g,0,none⟩)) none (some (.int .i64 32)) none).run Tryz.prog u=.ok (.slice (some ⟨g,0,none⟩) 32 64) u:=by
 have hu:Tryz.prog.underlying 24=some (.array (Tryz.prog.arrayLen 24) (Tryz.prog.elem 24)):=by kernel_rfl
 have hl:Tryz.prog.arrayLen 24=64:=by kernel_rfl
 have hz:∀ W:World,(sizeOf (Tryz.prog.elem 24)).run Tryz.prog W=.ok 1 W:=fun W=>by kernel_rfl
 rw [run_sliceAt_array_h u _ _ hu .i64 32 (by omega) (by rw [hl];omega),hz,hl]
 simp only [Result.andThen,slicedAt]
 rfl
theorem sl64_hi (g:Nat) (u:World):(Instr.sliceAt 24 (.pointer (some ⟨g,0,none⟩)) (some (.int .i64 32)) none none).run Tryz.prog u=.ok (.slice (some ⟨g,32,none⟩) 32 32) u:=by
 have hu:Tryz.prog.underlying 24=some (.array (Tryz.prog.arrayLen 24) (Tryz.prog.elem 24)):=by kernel_rfl
 have hl:Tryz.prog.arrayLen 24=64:=by kernel_rfl
 have hz:∀ W:World,(sizeOf (Tryz.prog.elem 24)).run Tryz.prog W=.ok 1 W:=fun W=>by kernel_rfl
 rw [run_sliceAt_array_l u _ _ hu .i64 32 (by omega) (by rw [hl];omega),hz,hl]
 simp only [Result.andThen,slicedAt]
 rfl
theorem arr32_at (g o c:Nat) (u:World):(Instr.arrayAt 22 (.slice (some ⟨g,o,none⟩) 32 c)).run Tryz.prog u=.ok (.pointer (some ⟨g,o,none⟩)) u:=by
 have hu:Tryz.prog.underlying 22=some (.array 32 5):=by kernel_rfl
 simp [Instr.arrayAt,run_underlying hu]
theorem arr32_info' {l:List UInt8} (h:l.length=32):(Tryz.prog.info? 22).map (·.size)=some (l.map bval).length:=by rw [List.length_map,h];kernel_rfl
theorem arr64_info' {l:List UInt8} (h:l.length=64):(Tryz.prog.info? 24).map (·.size)=some (l.map bval).length:=by rw [List.length_map,h];kernel_rfl
theorem row_lo {W:World} {g k:Nat} {l:List UInt8} {t:TypeId} (h:W.heap[g]?=some (.cells (arrB l) t (0,0))):W.rangeAt g 0 ((l.take k).map bval):=bs_range (bs_take (row_bs h) k)
theorem row_hi {W:World} {g k:Nat} {l:List UInt8} {t:TypeId} (h:W.heap[g]?=some (.cells (arrB l) t (0,0))):W.rangeAt g k ((l.drop k).map bval):=bs_range (row_bs_from h)
open Pm Fl
namespace Ed
section
variable {N:Nat} [NeZero N]
theorem dbl1 (x y u:Fin N):(x*u+y*u)*(x*u+y*u)-(x*u*(x*u)+y*u*(y*u))=u*u*(x*y+x*y):=by grind
theorem dbl2 {d x y:Fin N} (u:Fin N) (h:y*y-x*x=1+d*(x*x)*(y*y)):y*u*(y*u)-x*u*(x*u)=u*u*(1+d*x*x*y*y):=by
 have e:y*u*(y*u)-x*u*(x*u)=u*u*(y*y-x*x):=by grind
 rw [e,h]
 grind
theorem dbl3 (d x y u:Fin N):u*u+u*u-u*u*(1+d*x*x*y*y)=u*u*(1-d*x*x*y*y):=by grind
theorem dbl4 (x y u:Fin N):x*u*(x*u)+y*u*(y*u)=u*u*(y*y+x*x):=by grind
theorem dbl5 (a b c u:Fin N):u*u*(a*b)*(u*u*c)=a*(u*u*c*(u*u*b)):=by grind
theorem dbl6 (a b c u:Fin N):u*u*b*(u*u*(a*c))=a*(u*u*c*(u*u*b)):=by grind
theorem dbl7 (a b c e u:Fin N):u*u*(a*b)*(u*u*(e*c))=a*e*(u*u*c*(u*u*b)):=by grind
theorem rep_dbl {d i:Fin N} (hf:Full d i) {X Y Z T:Fin N} {p:Pt d} (hp:Rep X Y Z T p) :
  Rep (((X+Y)*(X+Y)-(X*X+Y*Y))*(Z*Z+Z*Z-(Y*Y-X*X))) ((Y*Y-X*X)*(X*X+Y*Y)) ((Z*Z+Z*Z-(Y*Y-X*X))*(Y*Y-X*X)) (((X+Y)*(X+Y)-(X*X+Y*Y))*(X*X+Y*Y)) (p.add hf p):=by
 obtain ⟨z,rfl,rfl,rfl⟩:=hp
 have pr:=hf.pr
 obtain ⟨hB,hD⟩:=full_ne hf p.on p.on
 have hu:(p.add hf p).x*(1+d*p.x*p.x*p.y*p.y)=p.x*p.y+p.x*p.y:=zaC pr hB
 have hv:(p.add hf p).y*(1-d*p.x*p.x*p.y*p.y)=p.y*p.y+p.x*p.x:=zaC pr hD
 have hz:=mul_ne pr z z
 rw [dbl1,dbl2 Z p.on,dbl3,dbl4,← hu,← hv]
 exact ⟨mul_ne pr (mul_ne pr hz hD) (mul_ne pr hz hB),dbl5 _ _ _ _,dbl6 _ _ _ _,dbl7 _ _ _ _ _⟩
end
end Ed
theorem co_dbl {X Y Z T a b z h g s ss e zz f:Nat} {p:PtD} (hp:Co X Y Z T p) (ha:(X*X) % PP=a) (hb:(Y*Y) % PP=b) (hz:(Z*Z) % PP=z) (hh:(a+b) % PP=h) (hg:(b+(PP-a)) % PP=g)
  (hs:(X+Y) % PP=s) (hss:(s*s) % PP=ss) (he:(ss+(PP-h)) % PP=e) (hzz:(z+z) % PP=zz) (hf:(zz+(PP-g)) % PP=f) :
  Co ((e*f) % PP) ((g*h) % PP) ((f*g) % PP) ((e*h) % PP) (padd p p):=by
 refine ⟨zak _,zak _,zak _,zak _,?_⟩
 have r:=Ed.rep_dbl F25519.full hp.rep
 have la:a<PP:=by rw [← ha];exact zak _
 have lh:h<PP:=by rw [← hh];exact zak _
 have lg:g<PP:=by rw [← hg];exact zak _
 have ea:F25519.c a=F25519.c X*F25519.c X:=by rw [← ha,zan]
 have eb:F25519.c b=F25519.c Y*F25519.c Y:=by rw [← hb,zan]
 have ez:F25519.c z=F25519.c Z*F25519.c Z:=by rw [← hz,zan]
 have eh:F25519.c h=F25519.c X*F25519.c X+F25519.c Y*F25519.c Y:=by rw [← hh,c_plus,ea,eb]
 have eg:F25519.c g=F25519.c Y*F25519.c Y-F25519.c X*F25519.c X:=by rw [← hg,c_less la,ea,eb]
 have ee:F25519.c e=(F25519.c X+F25519.c Y)*(F25519.c X+F25519.c Y)-(F25519.c X*F25519.c X+F25519.c Y*F25519.c Y):=by rw [← he,c_less lh,← hss,zan,← hs,c_plus,eh]
 have ef:F25519.c f=F25519.c Z*F25519.c Z+F25519.c Z*F25519.c Z-(F25519.c Y*F25519.c Y-F25519.c X*F25519.c X):=by rw [← hf,c_less lg,← hzz,c_plus,ez,eg]
 rw [zan,zan,zan,zan,ee,ef,eg,eh]
 exact r
theorem twice_mod (x d m:Nat):(x*((d+d) % m)) % m=((x*d) % m+(x*d) % m) % m:=by
 rw [← Nat.add_mod,Nat.mul_mod,Nat.mod_mod,← Nat.mul_mod,Nat.mul_add]
theorem twice_mod2 (x d m:Nat):((x+x) % m*d) % m=((x*d) % m+(x*d) % m) % m:=by
 rw [← Nat.add_mod,Nat.mul_mod,Nat.mod_mod,← Nat.mul_mod,Nat.add_mul]
theorem co_add2 {X1 Y1 Z1 T1 X2 Y2 Z2 T2 A B t c C z D E F G H:Nat} {p q:PtD} (h1:Co X1 Y1 Z1 T1 p) (h2:Co X2 Y2 Z2 T2 q)
  (hA:((Y1+(PP-X1)) % PP*((Y2+(PP-X2)) % PP)) % PP=A) (hB:((Y1+X1) % PP*((Y2+X2) % PP)) % PP=B)
  (ht:(T1*T2) % PP=t) (hc:(t*edN) % PP=c) (hC:(c+c) % PP=C) (hz:(Z1*Z2) % PP=z) (hD:(z+z) % PP=D)
  (hE:(B+(PP-A)) % PP=E) (hF:(D+(PP-C)) % PP=F) (hG:(D+C) % PP=G) (hH:(B+A) % PP=H) :
  Co ((E*F) % PP) ((G*H) % PP) ((F*G) % PP) ((E*H) % PP) (padd p q) :=
 co_add h1 h2 hA hB (by rw [ht,twice_mod,hc,hC]) (by rw [twice_mod2,hz,hD]) hE hF hG hH
def Pq (X Y Z T:Nat) (p:PtD):Prop:=Co X Y Z T p∨(X=0∧Y=0∧Z=0∧T=0∧p=pzero)
theorem co_zne {X Y Z T:Nat} {p:PtD} (h:Co X Y Z T p):¬ Z=0:=fun e=>h.rep.z (by rw [e];rfl)
theorem Pq.no {X Y Z T:Nat} {p:PtD} (h:Pq X Y Z T p) (hz:¬ Z=0):Co X Y Z T p:=h.elim id fun e=>absurd e.2.2.1 hz
theorem Pq.yes {X Y Z T:Nat} {p:PtD} (h:Pq X Y Z T p) (hz:Z=0):p=pzero:=h.elim (fun e=>absurd hz (co_zne e)) fun e=>e.2.2.2.2
theorem pq_zero:Pq 0 0 0 0 pzero:=.inr ⟨rfl,rfl,rfl,rfl,rfl⟩
theorem neg0 (m:Nat):(m-0) % m=0:=by rw [Nat.sub_zero,Nat.mod_self]
theorem sub0 (m:Nat):(0+(m-0)) % m=0:=by rw [Nat.zero_add,neg0]
theorem pneg_zero:Ed.Pt.neg pzero=pzero:=Ed.Pt.ext_ (by show -(0:Fin F25519.P)=0;grind) rfl
theorem pq_neg {X Y Z T:Nat} {p:PtD} (h:Pq X Y Z T p):Pq ((PP-X) % PP) Y Z ((PP-T) % PP) p.neg:=by
 rcases h with h | ⟨rfl,rfl,rfl,rfl,rfl⟩
 ·exact .inl (co_neg h)
 ·rw [neg0,pneg_zero];exact pq_zero
theorem pq_dbl {X Y Z T a b z h g s ss e zz f:Nat} {p:PtD} (hp:Pq X Y Z T p) (ha:(X*X) % PP=a) (hb:(Y*Y) % PP=b) (hz:(Z*Z) % PP=z) (hh:(a+b) % PP=h) (hg:(b+(PP-a)) % PP=g)
  (hs:(X+Y) % PP=s) (hss:(s*s) % PP=ss) (he:(ss+(PP-h)) % PP=e) (hzz:(z+z) % PP=zz) (hf:(zz+(PP-g)) % PP=f) :
  Pq ((e*f) % PP) ((g*h) % PP) ((f*g) % PP) ((e*h) % PP) (padd p p):=by
 rcases hp with hp | ⟨rfl,rfl,rfl,rfl,rfl⟩
 ·exact .inl (co_dbl hp ha hb hz hh hg hs hss he hzz hf)
 ·rw [Nat.zero_mul,Nat.zero_mod] at ha hb hz
  subst ha hb hz
  rw [sub0] at hg
  rw [Nat.zero_add,Nat.zero_mod] at hh hs hzz
  subst hg hh hs hzz
  rw [Nat.zero_mul,Nat.zero_mod] at hss
  subst hss
  rw [sub0] at he hf
  subst he hf
  rw [Nat.zero_mul,Nat.zero_mod]
  refine .inr ⟨rfl,rfl,rfl,rfl,?_⟩
  exact Ed.Pt.zero_add (hf:=F25519.full) pzero
def bD:List UInt8:=[0xa3,0x78,0x59,0x13,0xca,0x4d,0xeb,0x75,0xab,0xd8,0x41,0x41,0x4d,0x0a,0x70,0x00,0x98,0xe8,0x79,0x77,0x79,0x40,0xc7,0x8c,0x73,0xfe,0x6f,0x2b,0xee,0x6c,0x03,0x52]
def bBX:List UInt8:=[0x1a,0xd5,0x25,0x8f,0x60,0x2d,0x56,0xc9,0xb2,0xa7,0x25,0x95,0x60,0xc7,0x2c,0x69,0x5c,0xdc,0xd6,0xfd,0x31,0xe2,0xa4,0xc0,0xfe,0x53,0x6e,0xcd,0xd3,0x36,0x69,0x21]
def bBY:List UInt8:=[0x58,0x66,0x66,0x66,0x66,0x66,0x66,0x66,0x66,0x66,0x66,0x66,0x66,0x66,0x66,0x66,0x66,0x66,0x66,0x66,0x66,0x66,0x66,0x66,0x66,0x66,0x66,0x66,0x66,0x66,0x66,0x66]
theorem bD_len:bD.length=32:=rfl
theorem bBX_len:bBX.length=32:=rfl
theorem bBY_len:bBY.length=32:=rfl
theorem edN_val:edN=F25519.dV.val:=by
 have h:=congrArg Fin.val c_edN
 rwa [c_valP edN_lt] at h
theorem bD_fe:feN bD=edN:=by
 rw [edN_val]
 show feN bD=37095705934669439343138083508754565189542113879843219016388785533085940283555
 decide +kernel
theorem bBX_fe:feN bBX=F25519.bX:=by decide +kernel
theorem bBY_fe:feN bBY=F25519.bY:=by decide +kernel
def RetFeB (R:Array Value→Nat→Prop) (W:World) (x:Nat) (b:Bool) (e:Ending) (w':World):Prop:=∃ c,e=.returned (.tuple #[.agg c,.bool b])∧R c x∧Below W.heap.size W w'
end Go.Proofs.YtkgodlcnoenmbaaGreat
namespace Go.Proofs.YtkgodlcnoenmbaaGreat
open Go.RowKit
set_option linter.unusedVariables false
set_option maxRecDepth 100000
def limb5 (a b c d e:Nat):Array Value:=#[.int .u64 (a:Int),.int .u64 (b:Int),.int .u64 (c:Int),.int .u64 (d:Int),.int .u64 (e:Int)]
def feR (cs:Array Value) (x:Nat):Prop:=∃ a b c d e:Nat,cs=limb5 a b c d e∧a<L51∧b<L51∧c<L51∧d<L51∧e<L51∧val5 a b c d e % PP=x
def wide2 (v:Nat):Array Value:=#[.int .u64 ((v/18446744073709551616:Nat):Int),.int .u64 ((v % 18446744073709551616:Nat):Int)]
theorem and51 (n:Nat) (h:n<18446744073709551616):bits .and .u64 (n:Int) 2251799813685247=((n % 2251799813685248:Nat):Int):=by
 have h:=u64_and_nat n 2251799813685247 h (by omega)
 rw [show (2251799813685247:Nat)=2^51-1 by decide,Nat.and_two_pow_sub_one_eq_mod] at h
 exact h
theorem limb5_info (a b c d e:Nat):(Tryz.prog.info? 63).map (·.size)=some (limb5 a b c d e).size:=by kernel_rfl
theorem limb5_one (a b c d e:Nat):(limb5 a b c d e).all (·.oneCell')=true:=by simp [limb5,Value.oneCell']
set_option maxHeartbeats 1600000 in
theorem carried_any (l0 l1 l2 l3 l4:Nat) (h0:l0<18446744073709551616) (h1:l1<18446744073709551616) (h2:l2<18446744073709551616) (h3:l3<18446744073709551616) (h4:l4<18446744073709551616) (W:World) :
  Calls Tryz.prog 126 #[.int .u64 (l0:Int),.int .u64 (l1:Int),.int .u64 (l2:Int),.int .u64 (l3:Int),.int .u64 (l4:Int)] W
   (RetV W (.agg (limb5 (l0 % M51+19*(l4/M51)) (l1 % M51+l0/M51) (l2 % M51+l1/M51) (l3 % M51+l2/M51) (l4 % M51+l3/M51)))):=by
 have a0:=and51 l0 h0
 have a1:=and51 l1 h1
 have a2:=and51 l2 h2
 have a3:=and51 l3 h3
 have a4:=and51 l4 h4
 have d0:(l0:Int)/2251799813685248=((l0/2251799813685248:Nat):Int):=by omega
 have d1:(l1:Int)/2251799813685248=((l1/2251799813685248:Nat):Int):=by omega
 have d2:(l2:Int)/2251799813685248=((l2/2251799813685248:Nat):Int):=by omega
 have d3:(l3:Int)/2251799813685248=((l3/2251799813685248:Nat):Int):=by omega
 have d4:(l4:Int)/2251799813685248=((l4/2251799813685248:Nat):Int):=by omega
 have q4:l4/2251799813685248<8192:=by omega
 have q3:l3/2251799813685248<8192:=by omega
 have q2:l2/2251799813685248<8192:=by omega
 have q1:l1/2251799813685248<8192:=by omega
 have q0:l0/2251799813685248<8192:=by omega
 have r4:l4 % 2251799813685248<2251799813685248:=by omega
 have r3:l3 % 2251799813685248<2251799813685248:=by omega
 have r2:l2 % 2251799813685248<2251799813685248:=by omega
 have r1:l1 % 2251799813685248<2251799813685248:=by omega
 have r0:l0 % 2251799813685248<2251799813685248:=by omega
 unfold M51
 generalize l0/2251799813685248=u0 at *
 generalize l1/2251799813685248=u1 at *
 generalize l2/2251799813685248=u2 at *
 generalize l3/2251799813685248=u3 at *
 generalize l4/2251799813685248=u4 at *
 generalize l0 % 2251799813685248=v0 at *
 generalize l1 % 2251799813685248=v1 at *
 generalize l2 % 2251799813685248=v2 at *
 generalize l3 % 2251799813685248=v3 at *
 generalize l4 % 2251799813685248=v4 at *
 clear h0 h1 h2 h3 h4
 unfold limb5
 go_enter Tryz.func126,Tryz.ntmps126
 go_wp2
 refine bodyPost_ret (v:=.agg #[.int .u64 ((v0+19*u4:Nat):Int),.int .u64 ((v1+u0:Nat):Int),.int .u64 ((v2+u1:Nat):Int),.int .u64 ((v3+u2:Nat):Int),.int .u64 ((v4+u3:Nat):Int)]) (by simp [results,Tryz.results126,go_sem]) rfl ⟨rfl,(Below.refl _ _).alloc (Nat.le_refl _) _⟩
end Go.Proofs.YtkgodlcnoenmbaaGreat
namespace Go.Proofs.YtkgodlcnoenmbaaGreat
open Go.RowKit
set_option linter.unusedVariables false
set_option maxRecDepth 100000
abbrev carr0 (a e:Nat):Nat:=a % M51+19*(e/M51)
abbrev carr1 (a b:Nat):Nat:=a % M51+b/M51
theorem feR_carr {a b c d e x:Nat} (ha:a<18446744073709551616) (hb:b<18446744073709551616) (hc:c<18446744073709551616) (hd:d<18446744073709551616) (he:e<18446744073709551616) (h:val5 a b c d e % PP=x) :
  feR (limb5 (carr0 a e) (carr1 b a) (carr1 c b) (carr1 d c) (carr1 e d)) x :=
 ⟨_,_,_,_,_,rfl,by unfold carr0 M51 L51;omega,by unfold carr1 M51 L51;omega,by unfold carr1 M51 L51;omega,by unfold carr1 M51 L51;omega,by unfold carr1 M51 L51;omega,by rw [← h];exact val5_mod⟩
set_option maxHeartbeats 1600000 in
theorem feadd_any {c d:Array Value} {x y:Nat} (hx:feR c x) (hy:feR d y) (W:World):Calls Tryz.prog 82 #[.agg c,.agg d] W (RetFe feR W ((x+y) % PP)):=by
 obtain ⟨a0,a1,a2,a3,a4,rfl,ha0,ha1,ha2,ha3,ha4,rfl⟩:=hx
 obtain ⟨b0,b1,b2,b3,b4,rfl,hb0,hb1,hb2,hb3,hb4,rfl⟩:=hy
 unfold L51 at *
 have hR:feR (limb5 (carr0 (a0+b0) (a4+b4)) (carr1 (a1+b1) (a0+b0)) (carr1 (a2+b2) (a1+b1)) (carr1 (a3+b3) (a2+b2)) (carr1 (a4+b4) (a3+b3))) ((val5 a0 a1 a2 a3 a4 % PP+val5 b0 b1 b2 b3 b4 % PP) % PP) :=
  feR_carr (by omega) (by omega) (by omega) (by omega) (by omega) (by rw [val5_add,add_mod5])
 have HC:Hid (∀ W':World,Calls Tryz.prog 126 #[.int .u64 ((a0+b0:Nat):Int),.int .u64 ((a1+b1:Nat):Int),.int .u64 ((a2+b2:Nat):Int),.int .u64 ((a3+b3:Nat):Int),.int .u64 ((a4+b4:Nat):Int)] W'
   (RetV W' (.agg (limb5 (carr0 (a0+b0) (a4+b4)) (carr1 (a1+b1) (a0+b0)) (carr1 (a2+b2) (a1+b1)) (carr1 (a3+b3) (a2+b2)) (carr1 (a4+b4) (a3+b3)))))):=yh fun W'=>carried_any _ _ _ _ _ (by omega) (by omega) (by omega) (by omega) (by omega) W'
 have w0:(a0:Int)+(b0:Int)=((a0+b0:Nat):Int):=(Int.natCast_add _ _).symm
 have w1:(a1:Int)+(b1:Int)=((a1+b1:Nat):Int):=(Int.natCast_add _ _).symm
 have w2:(a2:Int)+(b2:Int)=((a2+b2:Nat):Int):=(Int.natCast_add _ _).symm
 have w3:(a3:Int)+(b3:Int)=((a3+b3:Nat):Int):=(Int.natCast_add _ _).symm
 have w4:(a4:Int)+(b4:Int)=((a4+b4:Nat):Int):=(Int.natCast_add _ _).symm
 have l0:a0+b0<18446744073709551616:=by omega
 have l1:a1+b1<18446744073709551616:=by omega
 have l2:a2+b2<18446744073709551616:=by omega
 have l3:a3+b3<18446744073709551616:=by omega
 have l4:a4+b4<18446744073709551616:=by omega
 obtain ⟨S,hS⟩:∃ S,limb5 (carr0 (a0+b0) (a4+b4)) (carr1 (a1+b1) (a0+b0)) (carr1 (a2+b2) (a1+b1)) (carr1 (a3+b3) (a2+b2)) (carr1 (a4+b4) (a3+b3))=S:=⟨_,rfl⟩
 rw [hS] at HC hR
 have iS:(Tryz.prog.info? 63).map (·.size)=some S.size:=by rw [← hS];exact limb5_info _ _ _ _ _
 have sS:(#[.int .u64 0,.int .u64 0,.int .u64 0,.int .u64 0,.int .u64 0]:Array Value).size=S.size:=by rw [← hS];rfl
 have oS:S.all (·.oneCell')=true:=by rw [← hS];exact limb5_one _ _ _ _ _
 have HP:Hid (∀ w',Below W.heap.size W w'→RetFe feR W ((val5 a0 a1 a2 a3 a4 % PP+val5 b0 b1 b2 b3 b4 % PP) % PP) (.returned (.agg S)) w'):=yh fun w' hb=>⟨S,rfl,hR,hb⟩
 clear hS hR
 generalize a0+b0=s0 at *
 generalize a1+b1=s1 at *
 generalize a2+b2=s2 at *
 generalize a3+b3=s3 at *
 generalize a4+b4=s4 at *
 unfold limb5
 have z0:((W.alloc (.cells #[.int .u64 (a0:Int),.int .u64 (a1:Int),.int .u64 (a2:Int),.int .u64 (a3:Int),.int .u64 (a4:Int)] 63)).alloc (.cells #[.int .u64 (b0:Int),.int .u64 (b1:Int),.int .u64 (b2:Int),.int .u64 (b3:Int),.int .u64 (b4:Int)] 63)).heap.size=W.heap.size+1+1:=by (try simp only [World.size_alloc])
 obtain ⟨W1,hW1⟩:∃ W1,((W.alloc (.cells #[.int .u64 (a0:Int),.int .u64 (a1:Int),.int .u64 (a2:Int),.int .u64 (a3:Int),.int .u64 (a4:Int)] 63)).alloc (.cells #[.int .u64 (b0:Int),.int .u64 (b1:Int),.int .u64 (b2:Int),.int .u64 (b3:Int),.int .u64 (b4:Int)] 63)).alloc (.cells #[.int .u64 0,.int .u64 0,.int .u64 0,.int .u64 0,.int .u64 0] 63)=W1:=⟨_,rfl⟩
 have hb1:Below W.heap.size W W1:=by rw [← hW1];exact zab (zab (zab (Below.refl _ _) _) _) _
 have hrow:W1.heap[W.heap.size+1+1]?=some (.cells #[.int .u64 0,.int .u64 0,.int .u64 0,.int .u64 0,.int .u64 0] 63 (0,0)):=by rw [← hW1,← z0];exact heap_alloc_new _ _
 have HB1:=yh hb1
 have HR:=yh hrow
 have HW1:=yh hW1
 clear hb1 hrow hW1 z0
 clear ha0 hb0
 clear ha1 hb1
 clear ha2 hb2
 clear ha3 hb3
 clear ha4 hb4
 go_enter Tryz.func82,Tryz.ntmps82
 go_wp2_with fail
 rw [HW1.out]
 with_reducible refine (HC.out _).mono ?_
 rintro e w2 ⟨rfl,hb2⟩
 have hr2:w2.heap[W.heap.size+1+1]?=some (.cells #[.int .u64 0,.int .u64 0,.int .u64 0,.int .u64 0,.int .u64 0] 63 (0,0)):=by rw [hb2.block _ (Array.getElem?_eq_some_iff.1 HR.out).1];exact HR.out
 have HE:Hid (Below W.heap.size W (w2.setRow (W.heap.size+1+1) S)):=yh (zad (zaa HB1.out hb2) (by omega))
 clear hb2
 go_wp2_with (refine yj S hr2 iS sS oS ?_)
 (try simp only [Exit.inBlock,Exit.then])
 refine bodyPost_ret (results_cell_row rfl _ _ (W.heap.size+1+1) _ S _ _ rfl (setRow_heap w2 _ _ _ _ _ hr2) Tryz.underlying63 rfl iS) rfl ?_
 exact HP.out _ HE.out
theorem val5_sub2 {a b c d e a' b' c' d' e' s0 s1 s2 s3 s4:Nat} (h0:s0+a'=a+4503599627370458) (h1:s1+b'=b+4503599627370494) (h2:s2+c'=c+4503599627370494) (h3:s3+d'=d+4503599627370494) (h4:s4+e'=e+4503599627370494) :
  val5 s0 s1 s2 s3 s4+val5 a' b' c' d' e'=val5 a b c d e+2*PP:=by
 unfold val5 M51 M102 M153 M204 PP
 omega
set_option maxHeartbeats 1600000 in
theorem fesub_any {c d:Array Value} {x y:Nat} (hx:feR c x) (hy:feR d y) (W:World):Calls Tryz.prog 81 #[.agg c,.agg d] W (RetFe feR W ((x+(PP-y)) % PP)):=by
 obtain ⟨a0,a1,a2,a3,a4,rfl,ha0,ha1,ha2,ha3,ha4,rfl⟩:=hx
 obtain ⟨b0,b1,b2,b3,b4,rfl,hb0,hb1,hb2,hb3,hb4,rfl⟩:=hy
 unfold L51 at *
 obtain ⟨k0,w0,l0,m0⟩:∃ k:Nat,(a0:Int)+4503599627370458=(k:Int)∧k<18446744073709551616∧k=a0+4503599627370458:=⟨a0+4503599627370458,by omega,by omega,rfl⟩
 obtain ⟨k1,w1,l1,m1⟩:∃ k:Nat,(a1:Int)+4503599627370494=(k:Int)∧k<18446744073709551616∧k=a1+4503599627370494:=⟨a1+4503599627370494,by omega,by omega,rfl⟩
 obtain ⟨k2,w2,l2,m2⟩:∃ k:Nat,(a2:Int)+4503599627370494=(k:Int)∧k<18446744073709551616∧k=a2+4503599627370494:=⟨a2+4503599627370494,by omega,by omega,rfl⟩
 obtain ⟨k3,w3,l3,m3⟩:∃ k:Nat,(a3:Int)+4503599627370494=(k:Int)∧k<18446744073709551616∧k=a3+4503599627370494:=⟨a3+4503599627370494,by omega,by omega,rfl⟩
 obtain ⟨k4,w4,l4,m4⟩:∃ k:Nat,(a4:Int)+4503599627370494=(k:Int)∧k<18446744073709551616∧k=a4+4503599627370494:=⟨a4+4503599627370494,by omega,by omega,rfl⟩
 obtain ⟨s0,v0,n0,j0⟩:∃ s:Nat,(k0:Int)-(b0:Int)=(s:Int)∧s<18446744073709551616∧s+b0=a0+4503599627370458:=⟨k0-b0,by omega,by omega,by omega⟩
 obtain ⟨s1,v1,n1,j1⟩:∃ s:Nat,(k1:Int)-(b1:Int)=(s:Int)∧s<18446744073709551616∧s+b1=a1+4503599627370494:=⟨k1-b1,by omega,by omega,by omega⟩
 obtain ⟨s2,v2,n2,j2⟩:∃ s:Nat,(k2:Int)-(b2:Int)=(s:Int)∧s<18446744073709551616∧s+b2=a2+4503599627370494:=⟨k2-b2,by omega,by omega,by omega⟩
 obtain ⟨s3,v3,n3,j3⟩:∃ s:Nat,(k3:Int)-(b3:Int)=(s:Int)∧s<18446744073709551616∧s+b3=a3+4503599627370494:=⟨k3-b3,by omega,by omega,by omega⟩
 obtain ⟨s4,v4,n4,j4⟩:∃ s:Nat,(k4:Int)-(b4:Int)=(s:Int)∧s<18446744073709551616∧s+b4=a4+4503599627370494:=⟨k4-b4,by omega,by omega,by omega⟩
 have hR:feR (limb5 (carr0 s0 s4) (carr1 s1 s0) (carr1 s2 s1) (carr1 s3 s2) (carr1 s4 s3)) ((val5 a0 a1 a2 a3 a4 % PP+(PP-val5 b0 b1 b2 b3 b4 % PP)) % PP):=feR_carr n0 n1 n2 n3 n4 (sub_mod (val5_sub2 j0 j1 j2 j3 j4))
 have HC:Hid (∀ W':World,Calls Tryz.prog 126 #[.int .u64 (s0:Int),.int .u64 (s1:Int),.int .u64 (s2:Int),.int .u64 (s3:Int),.int .u64 (s4:Int)] W' (RetV W' (.agg (limb5 (carr0 s0 s4) (carr1 s1 s0) (carr1 s2 s1) (carr1 s3 s2) (carr1 s4 s3))))):=yh fun W'=>carried_any _ _ _ _ _ n0 n1 n2 n3 n4 W'
 clear j0 j1 j2 j3 j4 m0 m1 m2 m3 m4
 obtain ⟨S,hS⟩:∃ S,limb5 (carr0 s0 s4) (carr1 s1 s0) (carr1 s2 s1) (carr1 s3 s2) (carr1 s4 s3)=S:=⟨_,rfl⟩
 rw [hS] at HC hR
 have iS:(Tryz.prog.info? 63).map (·.size)=some S.size:=by rw [← hS];exact limb5_info _ _ _ _ _
 have sS:(#[.int .u64 0,.int .u64 0,.int .u64 0,.int .u64 0,.int .u64 0]:Array Value).size=S.size:=by rw [← hS];rfl
 have oS:S.all (·.oneCell')=true:=by rw [← hS];exact limb5_one _ _ _ _ _
 obtain ⟨n,hn⟩:∃ n,(val5 a0 a1 a2 a3 a4 % PP+(PP-val5 b0 b1 b2 b3 b4 % PP)) % PP=n:=⟨_,rfl⟩
 rw [hn] at hR ⊢
 have HP:Hid (∀ w',Below W.heap.size W w'→RetFe feR W n (.returned (.agg S)) w'):=yh fun w' hb=>⟨S,rfl,hR,hb⟩
 clear hS hR hn
 unfold limb5
 have z0:((W.alloc (.cells #[.int .u64 (a0:Int),.int .u64 (a1:Int),.int .u64 (a2:Int),.int .u64 (a3:Int),.int .u64 (a4:Int)] 63)).alloc (.cells #[.int .u64 (b0:Int),.int .u64 (b1:Int),.int .u64 (b2:Int),.int .u64 (b3:Int),.int .u64 (b4:Int)] 63)).heap.size=W.heap.size+1+1:=by (try simp only [World.size_alloc])
 obtain ⟨W1,hW1⟩:∃ W1,((W.alloc (.cells #[.int .u64 (a0:Int),.int .u64 (a1:Int),.int .u64 (a2:Int),.int .u64 (a3:Int),.int .u64 (a4:Int)] 63)).alloc (.cells #[.int .u64 (b0:Int),.int .u64 (b1:Int),.int .u64 (b2:Int),.int .u64 (b3:Int),.int .u64 (b4:Int)] 63)).alloc (.cells #[.int .u64 0,.int .u64 0,.int .u64 0,.int .u64 0,.int .u64 0] 63)=W1:=⟨_,rfl⟩
 have hb1:Below W.heap.size W W1:=by rw [← hW1];exact zab (zab (zab (Below.refl _ _) _) _) _
 have hrow:W1.heap[W.heap.size+1+1]?=some (.cells #[.int .u64 0,.int .u64 0,.int .u64 0,.int .u64 0,.int .u64 0] 63 (0,0)):=by rw [← hW1,← z0];exact heap_alloc_new _ _
 have HB1:=yh hb1
 have HR:=yh hrow
 have HW1:=yh hW1
 clear hb1 hrow hW1 z0
 clear ha0 hb0
 clear ha1 hb1
 clear ha2 hb2
 clear ha3 hb3
 clear ha4 hb4
 go_enter Tryz.func81,Tryz.ntmps81
 go_wp2_with fail
 rw [HW1.out]
 with_reducible refine (HC.out _).mono ?_
 rintro e w2 ⟨rfl,hb2⟩
 have hr2:w2.heap[W.heap.size+1+1]?=some (.cells #[.int .u64 0,.int .u64 0,.int .u64 0,.int .u64 0,.int .u64 0] 63 (0,0)):=by rw [hb2.block _ (Array.getElem?_eq_some_iff.1 HR.out).1];exact HR.out
 have HE:Hid (Below W.heap.size W (w2.setRow (W.heap.size+1+1) S)):=yh (zad (zaa HB1.out hb2) (by omega))
 clear hb2
 go_wp2_with (refine yj S hr2 iS sS oS ?_)
 (try simp only [Exit.inBlock,Exit.then])
 refine bodyPost_ret (results_cell_row rfl _ _ (W.heap.size+1+1) _ S _ _ rfl (setRow_heap w2 _ _ _ _ _ hr2) Tryz.underlying63 rfl iS) rfl ?_
 exact HP.out _ HE.out
theorem feR_zero:feR (#[.int .u64 0,.int .u64 0,.int .u64 0,.int .u64 0,.int .u64 0]) 0:=⟨0,0,0,0,0,rfl,by decide,by decide,by decide,by decide,by decide,by decide⟩
theorem feR_info {c:Array Value} {x:Nat} (h:feR c x):(Tryz.prog.info? 63).map (·.size)=some c.size:=by
 obtain ⟨a,b,c,d,e,rfl,-⟩:=h;exact limb5_info _ _ _ _ _
theorem feR_one {c:Array Value} {x:Nat} (h:feR c x):c.all (·.oneCell')=true:=by
 obtain ⟨a,b,c,d,e,rfl,-⟩:=h;exact limb5_one _ _ _ _ _
theorem feR_size {c:Array Value} {x:Nat} (h:feR c x):(#[.int .u64 0,.int .u64 0,.int .u64 0,.int .u64 0,.int .u64 0]:Array Value).size=c.size:=by
 obtain ⟨a,b,c,d,e,rfl,-⟩:=h;rfl
set_option maxHeartbeats 1600000 in
theorem feneg_any {c:Array Value} {x:Nat} (hx:feR c x) (W:World):Calls Tryz.prog 86 #[.agg c] W (RetFe feR W ((PP-x) % PP)):=by
 have HC:Hid (∀ W':World,Calls Tryz.prog 81 #[.agg (#[.int .u64 0,.int .u64 0,.int .u64 0,.int .u64 0,.int .u64 0]),.agg c] W' (RetFe feR W' ((PP-x) % PP))):=yh fun W'=>by
  have h:=fesub_any feR_zero hx W'
  rwa [Nat.zero_add] at h
 have ic:=feR_info hx
 have oc:=feR_one hx
 have hrc:(W.alloc (.cells c 63)).heap[W.heap.size]?=some (.cells c 63 (0,0)):=heap_alloc_new _ _
 generalize (PP-x) % PP=n at *
 clear hx
 have z0:(W.alloc (.cells c 63)).heap.size=W.heap.size+1:=by (try simp only [World.size_alloc])
 obtain ⟨W1,hW1⟩:∃ W1,(W.alloc (.cells c 63)).alloc (.cells #[.int .u64 0,.int .u64 0,.int .u64 0,.int .u64 0,.int .u64 0] 63)=W1:=⟨_,rfl⟩
 have hb1:Below W.heap.size W W1:=by rw [← hW1];exact zab (zab (Below.refl _ _) _) _
 have hrow:W1.heap[W.heap.size+1]?=some (.cells #[.int .u64 0,.int .u64 0,.int .u64 0,.int .u64 0,.int .u64 0] 63 (0,0)):=by rw [← hW1,← z0];exact heap_alloc_new _ _
 have HB1:=yh hb1
 have HR:=yh hrow
 have hc1:((W.alloc (.cells c 63)).alloc (.cells #[.int .u64 0,.int .u64 0,.int .u64 0,.int .u64 0,.int .u64 0] 63)).heap[W.heap.size]?=some (.cells c 63 (0,0)):=by rw [heap_alloc_old _ _ (by rw [World.size_alloc];omega)];exact hrc
 have HW1:=yh hW1
 clear hb1 hrow hW1 z0 hrc
 go_enter Tryz.func86,Tryz.ntmps86
 go_wp2_with (refine yi hc1 Tryz.underlying63 ic ?_)
 rw [HW1.out]
 with_reducible refine (HC.out _).mono ?_
 rintro e w2 ⟨S,rfl,hR,hb2⟩
 have iS:=feR_info hR
 have sS:=feR_size hR
 have oS:=feR_one hR
 have HP:Hid (∀ w',Below W.heap.size W w'→RetFe feR W n (.returned (.agg S)) w'):=yh fun w' hb=>⟨S,rfl,hR,hb⟩
 clear hR
 have hr2:w2.heap[W.heap.size+1]?=some (.cells #[.int .u64 0,.int .u64 0,.int .u64 0,.int .u64 0,.int .u64 0] 63 (0,0)):=by rw [hb2.block _ (Array.getElem?_eq_some_iff.1 HR.out).1];exact HR.out
 have HE:Hid (Below W.heap.size W (w2.setRow (W.heap.size+1) S)):=yh (zad (zaa HB1.out hb2) (by omega))
 clear hb2
 go_wp2_with (refine yj S hr2 iS sS oS ?_)
 (try simp only [Exit.inBlock,Exit.then])
 refine bodyPost_ret (results_cell_row rfl _ _ (W.heap.size+1) _ S _ _ rfl (setRow_heap w2 _ _ _ _ _ hr2) Tryz.underlying63 rfl iS) rfl ?_
 exact HP.out _ HE.out
set_option maxHeartbeats 1600000 in
theorem fesmall_any (n:Nat) (hn:n<18446744073709551616) (W:World):Calls Tryz.prog 78 #[.int .u64 (n:Int)] W (RetFe feR W n):=by
 have a0:=and51 n hn
 have d0:(n:Int)/2251799813685248=((n/2251799813685248:Nat):Int):=by omega
 have hR:feR (limb5 (n % 2251799813685248) (n/2251799813685248) 0 0 0) n:=⟨_,_,_,_,_,rfl,by unfold L51;omega,by unfold L51;omega,by decide,by decide,by decide,by
  unfold val5 M51 M102 M153 M204 PP;omega⟩
 have HP:Hid (∀ w',Below W.heap.size W w'→RetFe feR W n (.returned (.agg #[.int .u64 ((n % 2251799813685248:Nat):Int),.int .u64 ((n/2251799813685248:Nat):Int),.int .u64 0,.int .u64 0,.int .u64 0])) w'):=yh fun w' hb=>⟨_,rfl,hR,hb⟩
 have q0:n/2251799813685248<8192:=by omega
 have r0:n % 2251799813685248<2251799813685248:=by omega
 clear hR
 generalize n/2251799813685248=u at *
 generalize n % 2251799813685248=v at *
 clear hn
 go_enter Tryz.func78,Tryz.ntmps78
 go_wp2
 refine bodyPost_ret (v:=.agg #[.int .u64 (v:Int),.int .u64 (u:Int),.int .u64 0,.int .u64 0,.int .u64 0]) (by simp [results,Tryz.results78,go_sem]) rfl (HP.out _ ?_)
 exact (Below.refl _ _).alloc (Nat.le_refl _) _
end Go.Proofs.YtkgodlcnoenmbaaGreat
namespace Go.Proofs.YtkgodlcnoenmbaaGreat
open Go.RowKit
set_option linter.unusedVariables false
set_option maxRecDepth 100000
theorem or_add13 (h q:Nat) (hq:q<8192) (hh:h*8192<18446744073709551616):bits .or .u64 ((h*8192:Nat):Int) (q:Int)=((h*8192+q:Nat):Int):=by
 have e:=u64_or_nat (h*8192) q hh (by omega)
 rw [e,show h*8192=2^13*h by rw [Nat.mul_comm],← Nat.two_pow_add_eq_or_of_lt (show q<2^13 from hq)]
theorem zaB (v:Nat):(Tryz.prog.info? 153).map (·.size)=some (wide2 v).size:=by kernel_rfl
theorem zaO (v:Nat):(wide2 v).all (·.oneCell')=true:=by simp [wide2,Value.oneCell']
set_option maxHeartbeats 1600000 in
theorem zaK (x y:Nat) (hx:x<18446744073709551616) (hy:y<18446744073709551616) (W:World) :
  Calls Tryz.prog 120 #[.int .u64 (x:Int),.int .u64 (y:Int)] W (RetV W (.agg (wide2 (x*y)))):=by
 have HM:Hid (∀ W':World,Calls Tryz.prog 147 #[.int .u64 (x:Int),.int .u64 (y:Int)] W' fun e w'=>e=.returned (.tuple #[.int .u64 ((x*y/18446744073709551616:Nat):Int),.int .u64 ((x*y % 18446744073709551616:Nat):Int)])∧w'=W'):=yh fun W'=>mul_any x y hx hy W'
 unfold wide2
 generalize x*y/18446744073709551616=h at *
 generalize x*y % 18446744073709551616=l at *
 clear hx hy
 go_enter Tryz.func120,Tryz.ntmps120
 go_wp2_with fail
 with_reducible refine (HM.out _).mono ?_
 rintro e w2 ⟨rfl,h2⟩
 rw [h2]
 clear h2 w2
 go_wp2_with fail
 refine bodyPost_ret (v:=.agg #[.int .u64 (h:Int),.int .u64 (l:Int)]) (by simp [results,Tryz.results120,go_sem]) rfl ⟨rfl,?_⟩
 exact (Below.refl _ _).alloc (Nat.le_refl _) _
set_option maxHeartbeats 1600000 in
theorem zao (v x y:Nat) (hx:x<18446744073709551616) (hy:y<18446744073709551616) (hv:v+x*y<340282366920938463463374607431768211456) (W:World) :
  Calls Tryz.prog 121 #[.agg (wide2 v),.int .u64 (x:Int),.int .u64 (y:Int)] W (RetV W (.agg (wide2 (v+x*y)))):=by
 obtain ⟨h,l,HM,e,hl,hh⟩:=mul_ex x y hx hy
 generalize x*y=p at *
 have v1:v/18446744073709551616<18446744073709551616:=by omega
 have v0:v % 18446744073709551616<18446744073709551616:=by omega
 have ve:v=v/18446744073709551616*18446744073709551616+v % 18446744073709551616:=by omega
 obtain ⟨z0,d0,s0,e0,k0⟩:=add_ex l (v % 18446744073709551616) 0 (by omega)
 obtain ⟨z1,d1,s1,e1,k1⟩:=add_ex h (v/18446744073709551616) d0 (by omega)
 have r1:(v+p)/18446744073709551616=z1:=by omega
 have r0:(v+p) % 18446744073709551616=z0:=by omega
 unfold wide2
 rw [r1,r0]
 generalize v/18446744073709551616=a1 at *
 generalize v % 18446744073709551616=a0 at *
 simp only [Int.ofNat_zero] at s0
 clear e hl hh v1 v0 ve e0 e1 k0 k1 r1 r0 hv hx hy
 go_enter Tryz.func121,Tryz.ntmps121
 go_wp2_with fail
 with_reducible refine (HM.out _).mono ?_
 rintro e w2 ⟨rfl,h2⟩
 rw [h2]
 clear h2 w2
 go_wp2_with fail
 refine bodyPost_ret (v:=.agg #[.int .u64 (z1:Int),.int .u64 (z0:Int)]) (by simp [results,Tryz.results121,go_sem]) rfl ⟨rfl,?_⟩
 exact ((Below.refl _ _).alloc (Nat.le_refl _) _).alloc (by simp) _
set_option maxHeartbeats 1600000 in
theorem limb_any (v:Nat) (W:World):Calls Tryz.prog 157 #[.agg (wide2 v)] W (RetV W (.int .u64 ((v % M51:Nat):Int))):=by
 have a0:=and51 (v % 18446744073709551616) (by omega)
 rw [show v % 18446744073709551616 % 2251799813685248=v % 2251799813685248 by omega] at a0
 unfold wide2 M51
 generalize v/18446744073709551616=h at *
 generalize v % 18446744073709551616=l at *
 generalize v % 2251799813685248=r at *
 go_enter Tryz.func157,Tryz.ntmps157
 go_wp2
 go_ret
 exact ⟨rfl,(Below.refl _ _).alloc (Nat.le_refl _) _⟩
set_option maxHeartbeats 1600000 in
theorem carry_any (v:Nat) (hv:v<41538374868278621028243970633760768) (W:World):Calls Tryz.prog 158 #[.agg (wide2 v)] W (RetV W (.int .u64 ((v/M51:Nat):Int))):=by
 have b1:v/18446744073709551616<2251799813685248:=by omega
 have b0:v % 18446744073709551616/2251799813685248<8192:=by omega
 have a0:=or_add13 (v/18446744073709551616) (v % 18446744073709551616/2251799813685248) b0 (by omega)
 rw [show v/18446744073709551616*8192+v % 18446744073709551616/2251799813685248=v/2251799813685248 by omega] at a0
 have d0:((v % 18446744073709551616:Nat):Int)/2251799813685248=((v % 18446744073709551616/2251799813685248:Nat):Int):=by omega
 have m0:((v/18446744073709551616:Nat):Int)*8192=((v/18446744073709551616*8192:Nat):Int):=by omega
 have m1:v/18446744073709551616*8192<18446744073709551616:=by omega
 unfold wide2 M51
 generalize v % 18446744073709551616/2251799813685248=q at *
 generalize v/18446744073709551616*8192=k at *
 generalize v/18446744073709551616=h at *
 generalize v % 18446744073709551616=l at *
 generalize v/2251799813685248=r at *
 clear hv
 go_enter Tryz.func158,Tryz.ntmps158
 go_wp2
 go_ret
 exact ⟨rfl,(Below.refl _ _).alloc (Nat.le_refl _) _⟩
end Go.Proofs.YtkgodlcnoenmbaaGreat
namespace Go.Proofs.YtkgodlcnoenmbaaGreat
open Go.RowKit
set_option linter.unusedVariables false
set_option maxRecDepth 100000
set_option maxHeartbeats 3200000 in
theorem narrowed_any (v0 v1 v2 v3 v4:Nat) (b0:v0<1298074214633706907132624082305024) (b1:v1<1298074214633706907132624082305024) (b2:v2<1298074214633706907132624082305024) (b3:v3<1298074214633706907132624082305024) (b4:v4<1298074214633706907132624082305024) (W:World) :
  Calls Tryz.prog 122 #[.agg (wide2 v0),.agg (wide2 v1),.agg (wide2 v2),.agg (wide2 v3),.agg (wide2 v4)] W (RetFe feR W (val5 v0 v1 v2 v3 v4 % PP)):=by
 have HL0:Hid (∀ W':World,Calls Tryz.prog 157 #[.agg (wide2 v0)] W' (RetV W' (.int .u64 ((v0 % M51:Nat):Int)))):=yh fun W'=>limb_any v0 W'
 have HQ0:Hid (∀ W':World,Calls Tryz.prog 158 #[.agg (wide2 v0)] W' (RetV W' (.int .u64 ((v0/M51:Nat):Int)))):=yh fun W'=>carry_any v0 (by omega) W'
 have r0:v0 % M51<2251799813685248:=Nat.mod_lt _ (by decide)
 have q0:v0/M51<576460752303423488:=by unfold M51;omega
 have i0:=zaB v0
 have HL1:Hid (∀ W':World,Calls Tryz.prog 157 #[.agg (wide2 v1)] W' (RetV W' (.int .u64 ((v1 % M51:Nat):Int)))):=yh fun W'=>limb_any v1 W'
 have HQ1:Hid (∀ W':World,Calls Tryz.prog 158 #[.agg (wide2 v1)] W' (RetV W' (.int .u64 ((v1/M51:Nat):Int)))):=yh fun W'=>carry_any v1 (by omega) W'
 have r1:v1 % M51<2251799813685248:=Nat.mod_lt _ (by decide)
 have q1:v1/M51<576460752303423488:=by unfold M51;omega
 have i1:=zaB v1
 have HL2:Hid (∀ W':World,Calls Tryz.prog 157 #[.agg (wide2 v2)] W' (RetV W' (.int .u64 ((v2 % M51:Nat):Int)))):=yh fun W'=>limb_any v2 W'
 have HQ2:Hid (∀ W':World,Calls Tryz.prog 158 #[.agg (wide2 v2)] W' (RetV W' (.int .u64 ((v2/M51:Nat):Int)))):=yh fun W'=>carry_any v2 (by omega) W'
 have r2:v2 % M51<2251799813685248:=Nat.mod_lt _ (by decide)
 have q2:v2/M51<576460752303423488:=by unfold M51;omega
 have i2:=zaB v2
 have HL3:Hid (∀ W':World,Calls Tryz.prog 157 #[.agg (wide2 v3)] W' (RetV W' (.int .u64 ((v3 % M51:Nat):Int)))):=yh fun W'=>limb_any v3 W'
 have HQ3:Hid (∀ W':World,Calls Tryz.prog 158 #[.agg (wide2 v3)] W' (RetV W' (.int .u64 ((v3/M51:Nat):Int)))):=yh fun W'=>carry_any v3 (by omega) W'
 have r3:v3 % M51<2251799813685248:=Nat.mod_lt _ (by decide)
 have q3:v3/M51<576460752303423488:=by unfold M51;omega
 have i3:=zaB v3
 have HL4:Hid (∀ W':World,Calls Tryz.prog 157 #[.agg (wide2 v4)] W' (RetV W' (.int .u64 ((v4 % M51:Nat):Int)))):=yh fun W'=>limb_any v4 W'
 have HQ4:Hid (∀ W':World,Calls Tryz.prog 158 #[.agg (wide2 v4)] W' (RetV W' (.int .u64 ((v4/M51:Nat):Int)))):=yh fun W'=>carry_any v4 (by omega) W'
 have r4:v4 % M51<2251799813685248:=Nat.mod_lt _ (by decide)
 have q4:v4/M51<576460752303423488:=by unfold M51;omega
 have i4:=zaB v4
 rw [← @val5_mod v0 v1 v2 v3 v4]
 generalize wide2 v0=V0 at *
 generalize v0 % M51=r0n at *
 generalize v0/M51=q0n at *
 generalize wide2 v1=V1 at *
 generalize v1 % M51=r1n at *
 generalize v1/M51=q1n at *
 generalize wide2 v2=V2 at *
 generalize v2 % M51=r2n at *
 generalize v2/M51=q2n at *
 generalize wide2 v3=V3 at *
 generalize v3 % M51=r3n at *
 generalize v3/M51=q3n at *
 generalize wide2 v4=V4 at *
 generalize v4 % M51=r4n at *
 generalize v4/M51=q4n at *
 clear b0 b1 b2 b3 b4
 obtain ⟨p4,w5,w6⟩:∃ p:Nat,IntKind.u64.wrap (19*(q4n:Int))=(p:Int)∧p=19*q4n:=⟨19*q4n,by rw [IntKind.wrap_u64];omega,rfl⟩
 obtain ⟨s0,w0,n0,j0⟩:∃ s:Nat,IntKind.u64.wrap ((r0n:Int)+(p4:Int))=(s:Int)∧s<18446744073709551616∧s=r0n+19*q4n:=⟨r0n+19*q4n,by rw [IntKind.wrap_u64];omega,by omega,rfl⟩
 obtain ⟨s1,w1,n1,j1⟩:∃ s:Nat,IntKind.u64.wrap ((r1n:Int)+(q0n:Int))=(s:Int)∧s<18446744073709551616∧s=r1n+q0n:=⟨r1n+q0n,by rw [IntKind.wrap_u64];omega,by omega,rfl⟩
 obtain ⟨s2,w2,n2,j2⟩:∃ s:Nat,IntKind.u64.wrap ((r2n:Int)+(q1n:Int))=(s:Int)∧s<18446744073709551616∧s=r2n+q1n:=⟨r2n+q1n,by rw [IntKind.wrap_u64];omega,by omega,rfl⟩
 obtain ⟨s3,w3,n3,j3⟩:∃ s:Nat,IntKind.u64.wrap ((r3n:Int)+(q2n:Int))=(s:Int)∧s<18446744073709551616∧s=r3n+q2n:=⟨r3n+q2n,by rw [IntKind.wrap_u64];omega,by omega,rfl⟩
 obtain ⟨s4,w4,n4,j4⟩:∃ s:Nat,IntKind.u64.wrap ((r4n:Int)+(q3n:Int))=(s:Int)∧s<18446744073709551616∧s=r4n+q3n:=⟨r4n+q3n,by rw [IntKind.wrap_u64];omega,by omega,rfl⟩
 rw [← j0,← j1,← j2,← j3,← j4]
 have hR:feR (limb5 (carr0 s0 s4) (carr1 s1 s0) (carr1 s2 s1) (carr1 s3 s2) (carr1 s4 s3)) (val5 s0 s1 s2 s3 s4 % PP):=feR_carr n0 n1 n2 n3 n4 rfl
 have HC:Hid (∀ W':World,Calls Tryz.prog 126 #[.int .u64 (s0:Int),.int .u64 (s1:Int),.int .u64 (s2:Int),.int .u64 (s3:Int),.int .u64 (s4:Int)] W' (RetV W' (.agg (limb5 (carr0 s0 s4) (carr1 s1 s0) (carr1 s2 s1) (carr1 s3 s2) (carr1 s4 s3))))):=yh fun W'=>carried_any _ _ _ _ _ n0 n1 n2 n3 n4 W'
 clear j0 j1 j2 j3 j4 w6
 have x0:IntKind.u64.wrap (s0:Int)=(s0:Int):=by rw [IntKind.wrap_u64];omega
 have x1:IntKind.u64.wrap (s1:Int)=(s1:Int):=by rw [IntKind.wrap_u64];omega
 have x2:IntKind.u64.wrap (s2:Int)=(s2:Int):=by rw [IntKind.wrap_u64];omega
 have x3:IntKind.u64.wrap (s3:Int)=(s3:Int):=by rw [IntKind.wrap_u64];omega
 have x4:IntKind.u64.wrap (s4:Int)=(s4:Int):=by rw [IntKind.wrap_u64];omega
 obtain ⟨S,hS⟩:∃ S,limb5 (carr0 s0 s4) (carr1 s1 s0) (carr1 s2 s1) (carr1 s3 s2) (carr1 s4 s3)=S:=⟨_,rfl⟩
 rw [hS] at HC hR
 have iS:(Tryz.prog.info? 63).map (·.size)=some S.size:=by rw [← hS];exact limb5_info _ _ _ _ _
 have sS:(#[.int .u64 0,.int .u64 0,.int .u64 0,.int .u64 0,.int .u64 0]:Array Value).size=S.size:=by rw [← hS];rfl
 have oS:S.all (·.oneCell')=true:=by rw [← hS];exact limb5_one _ _ _ _ _
 obtain ⟨n,hn⟩:∃ n,val5 s0 s1 s2 s3 s4 % PP=n:=⟨_,rfl⟩
 rw [hn] at hR ⊢
 have HP:Hid (∀ w',Below W.heap.size W w'→RetFe feR W n (.returned (.agg S)) w'):=yh fun w' hb=>⟨S,rfl,hR,hb⟩
 clear hS hR hn
 clear r0 r1 r2 r3 r4 q0 q1 q2 q3 q4 n0 n1 n2 n3 n4
 have hrr:RowsW ((((((W.alloc (.cells V0 153)).alloc (.cells V1 153)).alloc (.cells V2 153)).alloc (.cells V3 153)).alloc (.cells V4 153)).alloc (.cells #[.int .u64 0,.int .u64 0,.int .u64 0,.int .u64 0,.int .u64 0] 63)) [(W.heap.size+1+1+1+1+1,#[.int .u64 0,.int .u64 0,.int .u64 0,.int .u64 0,.int .u64 0],63),(W.heap.size+1+1+1+1,V4,153),(W.heap.size+1+1+1,V3,153),(W.heap.size+1+1,V2,153),(W.heap.size+1,V1,153),(W.heap.size,V0,153)]:=by have h:=(RowsW.box (RowsW.box (RowsW.box (RowsW.box (RowsW.box (RowsW.box (RowsW.nil W) V0 153) V1 153) V2 153) V3 153) V4 153) #[.int .u64 0,.int .u64 0,.int .u64 0,.int .u64 0,.int .u64 0] 63);simp only [World.size_alloc] at h;exact h
 obtain ⟨W1,hW1⟩:∃ W1,((((((W.alloc (.cells V0 153)).alloc (.cells V1 153)).alloc (.cells V2 153)).alloc (.cells V3 153)).alloc (.cells V4 153)).alloc (.cells #[.int .u64 0,.int .u64 0,.int .u64 0,.int .u64 0,.int .u64 0] 63))=W1:=⟨_,rfl⟩
 rw [hW1] at hrr
 have hb1:Below W.heap.size W W1:=by rw [← hW1];exact zab (zab (zab (zab (zab (zab (Below.refl _ _) _) _) _) _) _) _
 have HR:=yh hrr
 have HB1:=yh hb1
 have HW1:=yh hW1
 clear hrr hb1 hW1
 go_enter Tryz.func122,Tryz.ntmps122
 go_upto_region 1 with fail
 rw [HW1.out]
 refine wp_region_noPanic ?_
 refine zag (S:=fun W=>Below W1.heap.size W1 W) 26 (by kernel_rfl) ⟨by kernel_rfl,by kernel_rfl,by kernel_rfl,by kernel_rfl⟩ (by exact (Below.refl _ _).drew) (fun hT inv hS=>?_)
 refine' yT 0 hT inv hS (fun inv=>?_) (hy:=fun W hSW=>zac rfl rfl (HR.out.below hSW).tail.tail.tail.tail.tail.head Tryz.underlying153 rfl i0)
 refine' yT 2 hT inv hS (fun inv=>?_) (hy:=fun W hSW=>zac rfl rfl (HR.out.below hSW).tail.head Tryz.underlying153 rfl i4)
 refine' yT 6 hT inv hS (fun inv=>?_) (hy:=fun W hSW=>zac rfl rfl (HR.out.below hSW).tail.tail.tail.tail.head Tryz.underlying153 rfl i1)
 refine' yT 8 hT inv hS (fun inv=>?_) (hy:=fun W hSW=>zac rfl rfl (HR.out.below hSW).tail.tail.tail.tail.tail.head Tryz.underlying153 rfl i0)
 refine' yT 11 hT inv hS (fun inv=>?_) (hy:=fun W hSW=>zac rfl rfl (HR.out.below hSW).tail.tail.tail.head Tryz.underlying153 rfl i2)
 refine' yT 13 hT inv hS (fun inv=>?_) (hy:=fun W hSW=>zac rfl rfl (HR.out.below hSW).tail.tail.tail.tail.head Tryz.underlying153 rfl i1)
 refine' yT 16 hT inv hS (fun inv=>?_) (hy:=fun W hSW=>zac rfl rfl (HR.out.below hSW).tail.tail.head Tryz.underlying153 rfl i3)
 refine' yT 18 hT inv hS (fun inv=>?_) (hy:=fun W hSW=>zac rfl rfl (HR.out.below hSW).tail.tail.tail.head Tryz.underlying153 rfl i2)
 refine' yT 21 hT inv hS (fun inv=>?_) (hy:=fun W hSW=>zac rfl rfl (HR.out.below hSW).tail.head Tryz.underlying153 rfl i4)
 refine' yT 23 hT inv hS (fun inv=>?_) (hy:=fun W hSW=>zac rfl rfl (HR.out.below hSW).tail.tail.head Tryz.underlying153 rfl i3)
 refine xT 1 inv (fun K hK=>?_)
 go_simp
 with_reducible refine (HL0.out _).mono ?_
 rintro e u1 ⟨rfl,hb1⟩
 have kb1:=zaa hS hb1
 clear hS hb1
 refine hK.out _ _ (by exact kb1) (fun inv hS=>?_)
 clear hK K
 refine xT 3 inv (fun K hK=>?_)
 go_simp
 with_reducible refine (HQ4.out _).mono ?_
 rintro e u2 ⟨rfl,hb2⟩
 have kb2:=zaa hS hb2
 clear hS hb2
 refine hK.out _ _ (by exact kb2) (fun inv hS=>?_)
 clear hK K
 refine' yT 4 hT inv hS (fun inv=>?_)
 refine' yT 5 hT inv hS (fun inv=>?_)
 refine xT 7 inv (fun K hK=>?_)
 go_simp
 with_reducible refine (HL1.out _).mono ?_
 rintro e u3 ⟨rfl,hb3⟩
 have kb3:=zaa hS hb3
 clear hS hb3
 refine hK.out _ _ (by exact kb3) (fun inv hS=>?_)
 clear hK K
 refine xT 9 inv (fun K hK=>?_)
 go_simp
 with_reducible refine (HQ0.out _).mono ?_
 rintro e u4 ⟨rfl,hb4⟩
 have kb4:=zaa hS hb4
 clear hS hb4
 refine hK.out _ _ (by exact kb4) (fun inv hS=>?_)
 clear hK K
 refine' yT 10 hT inv hS (fun inv=>?_)
 refine xT 12 inv (fun K hK=>?_)
 go_simp
 with_reducible refine (HL2.out _).mono ?_
 rintro e u5 ⟨rfl,hb5⟩
 have kb5:=zaa hS hb5
 clear hS hb5
 refine hK.out _ _ (by exact kb5) (fun inv hS=>?_)
 clear hK K
 refine xT 14 inv (fun K hK=>?_)
 go_simp
 with_reducible refine (HQ1.out _).mono ?_
 rintro e u6 ⟨rfl,hb6⟩
 have kb6:=zaa hS hb6
 clear hS hb6
 refine hK.out _ _ (by exact kb6) (fun inv hS=>?_)
 clear hK K
 refine' yT 15 hT inv hS (fun inv=>?_)
 refine xT 17 inv (fun K hK=>?_)
 go_simp
 with_reducible refine (HL3.out _).mono ?_
 rintro e u7 ⟨rfl,hb7⟩
 have kb7:=zaa hS hb7
 clear hS hb7
 refine hK.out _ _ (by exact kb7) (fun inv hS=>?_)
 clear hK K
 refine xT 19 inv (fun K hK=>?_)
 go_simp
 with_reducible refine (HQ2.out _).mono ?_
 rintro e u8 ⟨rfl,hb8⟩
 have kb8:=zaa hS hb8
 clear hS hb8
 refine hK.out _ _ (by exact kb8) (fun inv hS=>?_)
 clear hK K
 refine' yT 20 hT inv hS (fun inv=>?_)
 refine xT 22 inv (fun K hK=>?_)
 go_simp
 with_reducible refine (HL4.out _).mono ?_
 rintro e u9 ⟨rfl,hb9⟩
 have kb9:=zaa hS hb9
 clear hS hb9
 refine hK.out _ _ (by exact kb9) (fun inv hS=>?_)
 clear hK K
 refine xT 24 inv (fun K hK=>?_)
 go_simp
 with_reducible refine (HQ3.out _).mono ?_
 rintro e u10 ⟨rfl,hb10⟩
 have kb10:=zaa hS hb10
 clear hS hb10
 refine hK.out _ _ (by exact kb10) (fun inv hS=>?_)
 clear hK K
 refine' yT 25 hT inv hS (fun inv=>?_)
 refine zaE (by kernel_rfl) ?_
 simp only [List.drop_succ_cons,List.drop_zero]
 clear hS
 (try simp only [Act.put])
 have HR2:=yh (HR.out.below kb10)
 have HB2:=yh (zaa HB1.out kb10)
 clear kb1 kb2 kb3 kb4 kb5 kb6 kb7 kb8 kb9 kb10
 go_wp2_with fail
 with_reducible refine (HC.out _).mono ?_
 rintro e w2 ⟨rfl,hb2⟩
 have hr2:=(HR2.out.below hb2).head
 have HE:Hid (Below W.heap.size W (w2.setRow (W.heap.size+1+1+1+1+1) S)):=yh (zad (zaa HB2.out hb2) (by omega))
 clear hb2
 go_wp2_with (refine yj S hr2 iS sS oS ?_)
 refine NoPanic.normal ?_
 go_wp2_with fail
 (try simp only [Exit.inBlock,Exit.then])
 refine bodyPost_ret (results_cell_row rfl _ _ (W.heap.size+1+1+1+1+1) _ S _ _ rfl (setRow_heap w2 _ _ _ _ _ hr2) Tryz.underlying63 rfl iS) rfl ?_
 exact HP.out _ HE.out
end Go.Proofs.YtkgodlcnoenmbaaGreat
namespace Go.Proofs.YtkgodlcnoenmbaaGreat
open Go.RowKit
set_option linter.unusedVariables false
set_option maxRecDepth 100000
theorem pb {x y:Nat} (hx:x<L51) (hy:y<L51):x*y≤5070602402093504723173315706881:=Nat.le_trans (Nat.mul_le_mul (Nat.le_of_lt_succ hx) (Nat.le_of_lt_succ hy)) (by decide)
theorem pb19 {x y f:Nat} (hx:x<L51) (hy:f<42784196465000448):x*f≤96341445639776630272689649483777:=Nat.le_trans (Nat.mul_le_mul (Nat.le_of_lt_succ hx) (Nat.le_of_lt_succ hy)) (by decide)
set_option maxHeartbeats 6400000 in
theorem femul_any {c d:Array Value} {x y:Nat} (hx:feR c x) (hy:feR d y) (W:World):Calls Tryz.prog 83 #[.agg c,.agg d] W (RetFe feR W ((x*y) % PP)):=by
 obtain ⟨a0,a1,a2,a3,a4,rfl,ha0,ha1,ha2,ha3,ha4,rfl⟩:=hx
 obtain ⟨b0,b1,b2,b3,b4,rfl,hb0,hb1,hb2,hb3,hb4,rfl⟩:=hy
 rw [← val5_mul]
 obtain ⟨f1,w1,hf1,e1⟩:∃ f:Nat,IntKind.u64.wrap (19*(b1:Int))=(f:Int)∧f<42784196465000448∧19*b1=f:=⟨19*b1,by rw [IntKind.wrap_u64];unfold L51 at hb1;omega,by unfold L51 at hb1;omega,rfl⟩
 obtain ⟨f2,w2,hf2,e2⟩:∃ f:Nat,IntKind.u64.wrap (19*(b2:Int))=(f:Int)∧f<42784196465000448∧19*b2=f:=⟨19*b2,by rw [IntKind.wrap_u64];unfold L51 at hb2;omega,by unfold L51 at hb2;omega,rfl⟩
 obtain ⟨f3,w3,hf3,e3⟩:∃ f:Nat,IntKind.u64.wrap (19*(b3:Int))=(f:Int)∧f<42784196465000448∧19*b3=f:=⟨19*b3,by rw [IntKind.wrap_u64];unfold L51 at hb3;omega,by unfold L51 at hb3;omega,rfl⟩
 obtain ⟨f4,w4,hf4,e4⟩:∃ f:Nat,IntKind.u64.wrap (19*(b4:Int))=(f:Int)∧f<42784196465000448∧19*b4=f:=⟨19*b4,by rw [IntKind.wrap_u64];unfold L51 at hb4;omega,by unfold L51 at hb4;omega,rfl⟩
 rw [e1,e2,e3,e4]
 have B0:a0*b0+a1*f4+a2*f3+a3*f2+a4*f1<1298074214633706907132624082305024:=by
  have p0:=pb (y:=b0) (x:=a0) ha0 hb0
  have p1:=pb19 (f:=f4) (y:=0) (x:=a1) ha1 hf4
  have p2:=pb19 (f:=f3) (y:=0) (x:=a2) ha2 hf3
  have p3:=pb19 (f:=f2) (y:=0) (x:=a3) ha3 hf2
  have p4:=pb19 (f:=f1) (y:=0) (x:=a4) ha4 hf1
  omega
 have B1:a0*b1+a1*b0+a2*f4+a3*f3+a4*f2<1298074214633706907132624082305024:=by
  have p0:=pb (y:=b1) (x:=a0) ha0 hb1
  have p1:=pb (y:=b0) (x:=a1) ha1 hb0
  have p2:=pb19 (f:=f4) (y:=0) (x:=a2) ha2 hf4
  have p3:=pb19 (f:=f3) (y:=0) (x:=a3) ha3 hf3
  have p4:=pb19 (f:=f2) (y:=0) (x:=a4) ha4 hf2
  omega
 have B2:a0*b2+a1*b1+a2*b0+a3*f4+a4*f3<1298074214633706907132624082305024:=by
  have p0:=pb (y:=b2) (x:=a0) ha0 hb2
  have p1:=pb (y:=b1) (x:=a1) ha1 hb1
  have p2:=pb (y:=b0) (x:=a2) ha2 hb0
  have p3:=pb19 (f:=f4) (y:=0) (x:=a3) ha3 hf4
  have p4:=pb19 (f:=f3) (y:=0) (x:=a4) ha4 hf3
  omega
 have B3:a0*b3+a1*b2+a2*b1+a3*b0+a4*f4<1298074214633706907132624082305024:=by
  have p0:=pb (y:=b3) (x:=a0) ha0 hb3
  have p1:=pb (y:=b2) (x:=a1) ha1 hb2
  have p2:=pb (y:=b1) (x:=a2) ha2 hb1
  have p3:=pb (y:=b0) (x:=a3) ha3 hb0
  have p4:=pb19 (f:=f4) (y:=0) (x:=a4) ha4 hf4
  omega
 have B4:a0*b4+a1*b3+a2*b2+a3*b1+a4*b0<1298074214633706907132624082305024:=by
  have p0:=pb (y:=b4) (x:=a0) ha0 hb4
  have p1:=pb (y:=b3) (x:=a1) ha1 hb3
  have p2:=pb (y:=b2) (x:=a2) ha2 hb2
  have p3:=pb (y:=b1) (x:=a3) ha3 hb1
  have p4:=pb (y:=b0) (x:=a4) ha4 hb0
  omega
 have HN:Hid (∀ W':World,Calls Tryz.prog 122 #[.agg (wide2 (a0*b0+a1*f4+a2*f3+a3*f2+a4*f1)),.agg (wide2 (a0*b1+a1*b0+a2*f4+a3*f3+a4*f2)),.agg (wide2 (a0*b2+a1*b1+a2*b0+a3*f4+a4*f3)),.agg (wide2 (a0*b3+a1*b2+a2*b1+a3*b0+a4*f4)),.agg (wide2 (a0*b4+a1*b3+a2*b2+a3*b1+a4*b0))] W' (RetFe feR W' (val5 (a0*b0+a1*f4+a2*f3+a3*f2+a4*f1) (a0*b1+a1*b0+a2*f4+a3*f3+a4*f2) (a0*b2+a1*b1+a2*b0+a3*f4+a4*f3) (a0*b3+a1*b2+a2*b1+a3*b0+a4*f4) (a0*b4+a1*b3+a2*b2+a3*b1+a4*b0) % PP))):=yh fun W'=>narrowed_any _ _ _ _ _ B0 B1 B2 B3 B4 W'
 unfold L51 at *
 have H0_0:Hid (∀ W':World,Calls Tryz.prog 120 #[.int .u64 (a0:Int),.int .u64 (b0:Int)] W' (RetV W' (.agg (wide2 (a0*b0))))):=yh fun W'=>zaK a0 b0 (by omega) (by omega) W'
 have H0_1:Hid (∀ W':World,Calls Tryz.prog 121 #[.agg (wide2 (a0*b0)),.int .u64 (a1:Int),.int .u64 (f4:Int)] W' (RetV W' (.agg (wide2 (a0*b0+a1*f4))))):=yh fun W'=>zao (a0*b0) a1 f4 (by omega) (by omega) (by have:=B0;omega) W'
 have H0_2:Hid (∀ W':World,Calls Tryz.prog 121 #[.agg (wide2 (a0*b0+a1*f4)),.int .u64 (a2:Int),.int .u64 (f3:Int)] W' (RetV W' (.agg (wide2 (a0*b0+a1*f4+a2*f3))))):=yh fun W'=>zao (a0*b0+a1*f4) a2 f3 (by omega) (by omega) (by have:=B0;omega) W'
 have H0_3:Hid (∀ W':World,Calls Tryz.prog 121 #[.agg (wide2 (a0*b0+a1*f4+a2*f3)),.int .u64 (a3:Int),.int .u64 (f2:Int)] W' (RetV W' (.agg (wide2 (a0*b0+a1*f4+a2*f3+a3*f2))))):=yh fun W'=>zao (a0*b0+a1*f4+a2*f3) a3 f2 (by omega) (by omega) (by have:=B0;omega) W'
 have H0_4:Hid (∀ W':World,Calls Tryz.prog 121 #[.agg (wide2 (a0*b0+a1*f4+a2*f3+a3*f2)),.int .u64 (a4:Int),.int .u64 (f1:Int)] W' (RetV W' (.agg (wide2 (a0*b0+a1*f4+a2*f3+a3*f2+a4*f1))))):=yh fun W'=>zao (a0*b0+a1*f4+a2*f3+a3*f2) a4 f1 (by omega) (by omega) (by have:=B0;omega) W'
 have H1_0:Hid (∀ W':World,Calls Tryz.prog 120 #[.int .u64 (a0:Int),.int .u64 (b1:Int)] W' (RetV W' (.agg (wide2 (a0*b1))))):=yh fun W'=>zaK a0 b1 (by omega) (by omega) W'
 have H1_1:Hid (∀ W':World,Calls Tryz.prog 121 #[.agg (wide2 (a0*b1)),.int .u64 (a1:Int),.int .u64 (b0:Int)] W' (RetV W' (.agg (wide2 (a0*b1+a1*b0))))):=yh fun W'=>zao (a0*b1) a1 b0 (by omega) (by omega) (by have:=B1;omega) W'
 have H1_2:Hid (∀ W':World,Calls Tryz.prog 121 #[.agg (wide2 (a0*b1+a1*b0)),.int .u64 (a2:Int),.int .u64 (f4:Int)] W' (RetV W' (.agg (wide2 (a0*b1+a1*b0+a2*f4))))):=yh fun W'=>zao (a0*b1+a1*b0) a2 f4 (by omega) (by omega) (by have:=B1;omega) W'
 have H1_3:Hid (∀ W':World,Calls Tryz.prog 121 #[.agg (wide2 (a0*b1+a1*b0+a2*f4)),.int .u64 (a3:Int),.int .u64 (f3:Int)] W' (RetV W' (.agg (wide2 (a0*b1+a1*b0+a2*f4+a3*f3))))):=yh fun W'=>zao (a0*b1+a1*b0+a2*f4) a3 f3 (by omega) (by omega) (by have:=B1;omega) W'
 have H1_4:Hid (∀ W':World,Calls Tryz.prog 121 #[.agg (wide2 (a0*b1+a1*b0+a2*f4+a3*f3)),.int .u64 (a4:Int),.int .u64 (f2:Int)] W' (RetV W' (.agg (wide2 (a0*b1+a1*b0+a2*f4+a3*f3+a4*f2))))):=yh fun W'=>zao (a0*b1+a1*b0+a2*f4+a3*f3) a4 f2 (by omega) (by omega) (by have:=B1;omega) W'
 have H2_0:Hid (∀ W':World,Calls Tryz.prog 120 #[.int .u64 (a0:Int),.int .u64 (b2:Int)] W' (RetV W' (.agg (wide2 (a0*b2))))):=yh fun W'=>zaK a0 b2 (by omega) (by omega) W'
 have H2_1:Hid (∀ W':World,Calls Tryz.prog 121 #[.agg (wide2 (a0*b2)),.int .u64 (a1:Int),.int .u64 (b1:Int)] W' (RetV W' (.agg (wide2 (a0*b2+a1*b1))))):=yh fun W'=>zao (a0*b2) a1 b1 (by omega) (by omega) (by have:=B2;omega) W'
 have H2_2:Hid (∀ W':World,Calls Tryz.prog 121 #[.agg (wide2 (a0*b2+a1*b1)),.int .u64 (a2:Int),.int .u64 (b0:Int)] W' (RetV W' (.agg (wide2 (a0*b2+a1*b1+a2*b0))))):=yh fun W'=>zao (a0*b2+a1*b1) a2 b0 (by omega) (by omega) (by have:=B2;omega) W'
 have H2_3:Hid (∀ W':World,Calls Tryz.prog 121 #[.agg (wide2 (a0*b2+a1*b1+a2*b0)),.int .u64 (a3:Int),.int .u64 (f4:Int)] W' (RetV W' (.agg (wide2 (a0*b2+a1*b1+a2*b0+a3*f4))))):=yh fun W'=>zao (a0*b2+a1*b1+a2*b0) a3 f4 (by omega) (by omega) (by have:=B2;omega) W'
 have H2_4:Hid (∀ W':World,Calls Tryz.prog 121 #[.agg (wide2 (a0*b2+a1*b1+a2*b0+a3*f4)),.int .u64 (a4:Int),.int .u64 (f3:Int)] W' (RetV W' (.agg (wide2 (a0*b2+a1*b1+a2*b0+a3*f4+a4*f3))))):=yh fun W'=>zao (a0*b2+a1*b1+a2*b0+a3*f4) a4 f3 (by omega) (by omega) (by have:=B2;omega) W'
 have H3_0:Hid (∀ W':World,Calls Tryz.prog 120 #[.int .u64 (a0:Int),.int .u64 (b3:Int)] W' (RetV W' (.agg (wide2 (a0*b3))))):=yh fun W'=>zaK a0 b3 (by omega) (by omega) W'
 have H3_1:Hid (∀ W':World,Calls Tryz.prog 121 #[.agg (wide2 (a0*b3)),.int .u64 (a1:Int),.int .u64 (b2:Int)] W' (RetV W' (.agg (wide2 (a0*b3+a1*b2))))):=yh fun W'=>zao (a0*b3) a1 b2 (by omega) (by omega) (by have:=B3;omega) W'
 have H3_2:Hid (∀ W':World,Calls Tryz.prog 121 #[.agg (wide2 (a0*b3+a1*b2)),.int .u64 (a2:Int),.int .u64 (b1:Int)] W' (RetV W' (.agg (wide2 (a0*b3+a1*b2+a2*b1))))):=yh fun W'=>zao (a0*b3+a1*b2) a2 b1 (by omega) (by omega) (by have:=B3;omega) W'
 have H3_3:Hid (∀ W':World,Calls Tryz.prog 121 #[.agg (wide2 (a0*b3+a1*b2+a2*b1)),.int .u64 (a3:Int),.int .u64 (b0:Int)] W' (RetV W' (.agg (wide2 (a0*b3+a1*b2+a2*b1+a3*b0))))):=yh fun W'=>zao (a0*b3+a1*b2+a2*b1) a3 b0 (by omega) (by omega) (by have:=B3;omega) W'
 have H3_4:Hid (∀ W':World,Calls Tryz.prog 121 #[.agg (wide2 (a0*b3+a1*b2+a2*b1+a3*b0)),.int .u64 (a4:Int),.int .u64 (f4:Int)] W' (RetV W' (.agg (wide2 (a0*b3+a1*b2+a2*b1+a3*b0+a4*f4))))):=yh fun W'=>zao (a0*b3+a1*b2+a2*b1+a3*b0) a4 f4 (by omega) (by omega) (by have:=B3;omega) W'
 have H4_0:Hid (∀ W':World,Calls Tryz.prog 120 #[.int .u64 (a0:Int),.int .u64 (b4:Int)] W' (RetV W' (.agg (wide2 (a0*b4))))):=yh fun W'=>zaK a0 b4 (by omega) (by omega) W'
 have H4_1:Hid (∀ W':World,Calls Tryz.prog 121 #[.agg (wide2 (a0*b4)),.int .u64 (a1:Int),.int .u64 (b3:Int)] W' (RetV W' (.agg (wide2 (a0*b4+a1*b3))))):=yh fun W'=>zao (a0*b4) a1 b3 (by omega) (by omega) (by have:=B4;omega) W'
 have H4_2:Hid (∀ W':World,Calls Tryz.prog 121 #[.agg (wide2 (a0*b4+a1*b3)),.int .u64 (a2:Int),.int .u64 (b2:Int)] W' (RetV W' (.agg (wide2 (a0*b4+a1*b3+a2*b2))))):=yh fun W'=>zao (a0*b4+a1*b3) a2 b2 (by omega) (by omega) (by have:=B4;omega) W'
 have H4_3:Hid (∀ W':World,Calls Tryz.prog 121 #[.agg (wide2 (a0*b4+a1*b3+a2*b2)),.int .u64 (a3:Int),.int .u64 (b1:Int)] W' (RetV W' (.agg (wide2 (a0*b4+a1*b3+a2*b2+a3*b1))))):=yh fun W'=>zao (a0*b4+a1*b3+a2*b2) a3 b1 (by omega) (by omega) (by have:=B4;omega) W'
 have H4_4:Hid (∀ W':World,Calls Tryz.prog 121 #[.agg (wide2 (a0*b4+a1*b3+a2*b2+a3*b1)),.int .u64 (a4:Int),.int .u64 (b0:Int)] W' (RetV W' (.agg (wide2 (a0*b4+a1*b3+a2*b2+a3*b1+a4*b0))))):=yh fun W'=>zao (a0*b4+a1*b3+a2*b2+a3*b1) a4 b0 (by omega) (by omega) (by have:=B4;omega) W'
 generalize val5 (a0*b0+a1*f4+a2*f3+a3*f2+a4*f1) (a0*b1+a1*b0+a2*f4+a3*f3+a4*f2) (a0*b2+a1*b1+a2*b0+a3*f4+a4*f3) (a0*b3+a1*b2+a2*b1+a3*b0+a4*f4) (a0*b4+a1*b3+a2*b2+a3*b1+a4*b0) % PP=nn at *
 clear B0 B1 B2 B3 B4 e1 e2 e3 e4
 generalize wide2 (a0*b0)=U0_0 at *
 generalize wide2 (a0*b0+a1*f4)=U0_1 at *
 generalize wide2 (a0*b0+a1*f4+a2*f3)=U0_2 at *
 generalize wide2 (a0*b0+a1*f4+a2*f3+a3*f2)=U0_3 at *
 have i0:=zaB (a0*b0+a1*f4+a2*f3+a3*f2+a4*f1)
 have on0:=zaO (a0*b0+a1*f4+a2*f3+a3*f2+a4*f1)
 have sz0:(#[.int .u64 0,.int .u64 0]:Array Value).size=(wide2 (a0*b0+a1*f4+a2*f3+a3*f2+a4*f1)).size:=rfl
 generalize wide2 (a0*b0+a1*f4+a2*f3+a3*f2+a4*f1)=V0 at *
 generalize wide2 (a0*b1)=U1_0 at *
 generalize wide2 (a0*b1+a1*b0)=U1_1 at *
 generalize wide2 (a0*b1+a1*b0+a2*f4)=U1_2 at *
 generalize wide2 (a0*b1+a1*b0+a2*f4+a3*f3)=U1_3 at *
 have i1:=zaB (a0*b1+a1*b0+a2*f4+a3*f3+a4*f2)
 have on1:=zaO (a0*b1+a1*b0+a2*f4+a3*f3+a4*f2)
 have sz1:(#[.int .u64 0,.int .u64 0]:Array Value).size=(wide2 (a0*b1+a1*b0+a2*f4+a3*f3+a4*f2)).size:=rfl
 generalize wide2 (a0*b1+a1*b0+a2*f4+a3*f3+a4*f2)=V1 at *
 generalize wide2 (a0*b2)=U2_0 at *
 generalize wide2 (a0*b2+a1*b1)=U2_1 at *
 generalize wide2 (a0*b2+a1*b1+a2*b0)=U2_2 at *
 generalize wide2 (a0*b2+a1*b1+a2*b0+a3*f4)=U2_3 at *
 have i2:=zaB (a0*b2+a1*b1+a2*b0+a3*f4+a4*f3)
 have on2:=zaO (a0*b2+a1*b1+a2*b0+a3*f4+a4*f3)
 have sz2:(#[.int .u64 0,.int .u64 0]:Array Value).size=(wide2 (a0*b2+a1*b1+a2*b0+a3*f4+a4*f3)).size:=rfl
 generalize wide2 (a0*b2+a1*b1+a2*b0+a3*f4+a4*f3)=V2 at *
 generalize wide2 (a0*b3)=U3_0 at *
 generalize wide2 (a0*b3+a1*b2)=U3_1 at *
 generalize wide2 (a0*b3+a1*b2+a2*b1)=U3_2 at *
 generalize wide2 (a0*b3+a1*b2+a2*b1+a3*b0)=U3_3 at *
 have i3:=zaB (a0*b3+a1*b2+a2*b1+a3*b0+a4*f4)
 have on3:=zaO (a0*b3+a1*b2+a2*b1+a3*b0+a4*f4)
 have sz3:(#[.int .u64 0,.int .u64 0]:Array Value).size=(wide2 (a0*b3+a1*b2+a2*b1+a3*b0+a4*f4)).size:=rfl
 generalize wide2 (a0*b3+a1*b2+a2*b1+a3*b0+a4*f4)=V3 at *
 generalize wide2 (a0*b4)=U4_0 at *
 generalize wide2 (a0*b4+a1*b3)=U4_1 at *
 generalize wide2 (a0*b4+a1*b3+a2*b2)=U4_2 at *
 generalize wide2 (a0*b4+a1*b3+a2*b2+a3*b1)=U4_3 at *
 have i4:=zaB (a0*b4+a1*b3+a2*b2+a3*b1+a4*b0)
 have on4:=zaO (a0*b4+a1*b3+a2*b2+a3*b1+a4*b0)
 have sz4:(#[.int .u64 0,.int .u64 0]:Array Value).size=(wide2 (a0*b4+a1*b3+a2*b2+a3*b1+a4*b0)).size:=rfl
 generalize wide2 (a0*b4+a1*b3+a2*b2+a3*b1+a4*b0)=V4 at *
 have z1:IntKind.u64.wrap (f1:Int)=(f1:Int):=by rw [IntKind.wrap_u64];omega
 have z2:IntKind.u64.wrap (f2:Int)=(f2:Int):=by rw [IntKind.wrap_u64];omega
 have z3:IntKind.u64.wrap (f3:Int)=(f3:Int):=by rw [IntKind.wrap_u64];omega
 have z4:IntKind.u64.wrap (f4:Int)=(f4:Int):=by rw [IntKind.wrap_u64];omega
 clear ha0 hb0 ha1 hb1 ha2 hb2 ha3 hb3 ha4 hb4 hf1 hf2 hf3 hf4
 have hzw:∀ u,(zeroValue 153).run Tryz.prog u=.ok (.agg #[.int .u64 0,.int .u64 0]) u:=fun u=>zero_arr 153 #[.int .u64 0,.int .u64 0] 2 (by kernel_rfl) u
 obtain ⟨La,hLa⟩:∃ L,limb5 a0 a1 a2 a3 a4=L:=⟨_,rfl⟩
 rw [hLa]
 have HLa:Hid (La=limb5 a0 a1 a2 a3 a4):=yh hLa.symm
 clear hLa
 obtain ⟨Lb,hLb⟩:∃ L,limb5 b0 b1 b2 b3 b4=L:=⟨_,rfl⟩
 rw [hLb]
 have HLb:Hid (Lb=limb5 b0 b1 b2 b3 b4):=yh hLb.symm
 clear hLb
 have hrr:RowsW (((W.alloc (.cells La 63)).alloc (.cells Lb 63)).alloc (.cells #[.int .u64 0,.int .u64 0,.int .u64 0,.int .u64 0,.int .u64 0] 63)) [(W.heap.size+1+1,#[.int .u64 0,.int .u64 0,.int .u64 0,.int .u64 0,.int .u64 0],63),(W.heap.size+1,Lb,63),(W.heap.size,La,63)]:=by have h:=(RowsW.box (RowsW.box (RowsW.box (RowsW.nil W) La 63) Lb 63) #[.int .u64 0,.int .u64 0,.int .u64 0,.int .u64 0,.int .u64 0] 63);simp only [World.size_alloc] at h;exact h
 obtain ⟨W1,hW1⟩:∃ W1,(((W.alloc (.cells La 63)).alloc (.cells Lb 63)).alloc (.cells #[.int .u64 0,.int .u64 0,.int .u64 0,.int .u64 0,.int .u64 0] 63))=W1:=⟨_,rfl⟩
 rw [hW1] at hrr
 have hb1:Below W.heap.size W W1:=by rw [← hW1];exact zab (zab (zab (Below.refl _ _) _) _) _
 have HR:=yh hrr
 have HB1:=yh hb1
 have HW1:=yh hW1
 clear hrr hb1 hW1
 go_enter Tryz.func83,Tryz.ntmps83
 go_upto_region 1 with fail
 rw [HW1.out]
 have cb1:W1.cell? ⟨W.heap.size+1,1,none⟩=some (.int .u64 (b1:Int)):=by rw [cell_of_row _ _ _ _ _ _ HR.out.tail.head,HLb.out];rfl
 have cb2:W1.cell? ⟨W.heap.size+1,2,none⟩=some (.int .u64 (b2:Int)):=by rw [cell_of_row _ _ _ _ _ _ HR.out.tail.head,HLb.out];rfl
 have cb3:W1.cell? ⟨W.heap.size+1,3,none⟩=some (.int .u64 (b3:Int)):=by rw [cell_of_row _ _ _ _ _ _ HR.out.tail.head,HLb.out];rfl
 have cb4:W1.cell? ⟨W.heap.size+1,4,none⟩=some (.int .u64 (b4:Int)):=by rw [cell_of_row _ _ _ _ _ _ HR.out.tail.head,HLb.out];rfl
 go_quiet (fail)
 obtain ⟨Q0,hQ0⟩:∃ X,W1.drewN nq=X:=⟨_,rfl⟩
 have HRQ0:=yh (show RowsW Q0 [(W.heap.size+1+1,#[.int .u64 0,.int .u64 0,.int .u64 0,.int .u64 0,.int .u64 0],63),(W.heap.size+1,Lb,63),(W.heap.size,La,63)] by rw [← hQ0];exact HR.out.below (zaD (Below.refl _ _) nq))
 have HBQ0:=yh (show Below W.heap.size W Q0 by rw [← hQ0];exact zaD HB1.out nq)
 rw [hQ0]
 clear hQ0 nq cb1 cb2 cb3 cb4
 go_upto_region 2 with fail
 refine wp_region_noPanic ?_
 refine zai 21 9 153 #[.int .u64 0,.int .u64 0] (by kernel_rfl) (by kernel_rfl) ⟨by kernel_rfl,by kernel_rfl,hzw,fun _ _ _ h=>h⟩ (fun hA hS=>?_)
 refine' yD 0 hA hS ?_
 refine' yD 1 hA hS ?_ (hy:=by intro X hSX;have hc:X.cell? ⟨W.heap.size,0,none⟩=some (.int .u64 (a0:Int)):=by { rw [cell_of_row _ _ _ _ _ _ (HRQ0.out.below hSX).tail.tail.head,HLa.out];rfl };go_simp;try with_reducible rfl)
 refine' yD 2 hA hS ?_
 refine' yD 3 hA hS ?_ (hy:=by intro X hSX;have hc:X.cell? ⟨W.heap.size+1,0,none⟩=some (.int .u64 (b0:Int)):=by { rw [cell_of_row _ _ _ _ _ _ (HRQ0.out.below hSX).tail.head,HLb.out];rfl };go_simp;try with_reducible rfl)
 refine' yD 5 hA hS ?_
 refine' yD 6 hA hS ?_ (hy:=by intro X hSX;have hc:X.cell? ⟨W.heap.size,1,none⟩=some (.int .u64 (a1:Int)):=by { rw [cell_of_row _ _ _ _ _ _ (HRQ0.out.below hSX).tail.tail.head,HLa.out];rfl };go_simp;try with_reducible rfl)
 refine' yD 7 hA hS ?_
 refine' yD 9 hA hS ?_
 refine' yD 10 hA hS ?_ (hy:=by intro X hSX;have hc:X.cell? ⟨W.heap.size,2,none⟩=some (.int .u64 (a2:Int)):=by { rw [cell_of_row _ _ _ _ _ _ (HRQ0.out.below hSX).tail.tail.head,HLa.out];rfl };go_simp;try with_reducible rfl)
 refine' yD 11 hA hS ?_
 refine' yD 13 hA hS ?_
 refine' yD 14 hA hS ?_ (hy:=by intro X hSX;have hc:X.cell? ⟨W.heap.size,3,none⟩=some (.int .u64 (a3:Int)):=by { rw [cell_of_row _ _ _ _ _ _ (HRQ0.out.below hSX).tail.tail.head,HLa.out];rfl };go_simp;try with_reducible rfl)
 refine' yD 15 hA hS ?_
 refine' yD 17 hA hS ?_
 refine' yD 18 hA hS ?_ (hy:=by intro X hSX;have hc:X.cell? ⟨W.heap.size,4,none⟩=some (.int .u64 (a4:Int)):=by { rw [cell_of_row _ _ _ _ _ _ (HRQ0.out.below hSX).tail.tail.head,HLa.out];rfl };go_simp;try with_reducible rfl)
 refine' yD 19 hA hS ?_
 refine xE 4 hA hS (fun ok0 Wk0 hS K hK=>?_)
 go_simp
 with_reducible refine (H0_0.out Wk0).mono ?_
 rintro e uk0 ⟨rfl,hbk0⟩
 refine hK.out _ _ hbk0 (fun hS=>?_)
 clear hK K hbk0
 refine xE 8 hA hS (fun ok0 Wk0 hS K hK=>?_)
 go_simp
 with_reducible refine (H0_1.out Wk0).mono ?_
 rintro e uk0 ⟨rfl,hbk0⟩
 refine hK.out _ _ hbk0 (fun hS=>?_)
 clear hK K hbk0
 refine xE 12 hA hS (fun ok0 Wk0 hS K hK=>?_)
 go_simp
 with_reducible refine (H0_2.out Wk0).mono ?_
 rintro e uk0 ⟨rfl,hbk0⟩
 refine hK.out _ _ hbk0 (fun hS=>?_)
 clear hK K hbk0
 refine xE 16 hA hS (fun ok0 Wk0 hS K hK=>?_)
 go_simp
 with_reducible refine (H0_3.out Wk0).mono ?_
 rintro e uk0 ⟨rfl,hbk0⟩
 refine hK.out _ _ hbk0 (fun hS=>?_)
 clear hK K hbk0
 refine xE 20 hA hS (fun ok0 Wk0 hS K hK=>?_)
 go_simp
 with_reducible refine (H0_4.out Wk0).mono ?_
 rintro e uk0 ⟨rfl,hbk0⟩
 refine hK.out _ _ hbk0 (fun hS=>?_)
 clear hK K hbk0
 refine' zay 22 hA rfl (by kernel_rfl) (by kernel_rfl) (by kernel_rfl) hS (by kernel_rfl) rfl (by intro h;cases h) i0 sz0 on0 ?_ ?_
 rotate_left 1
 ·intro g;simp only [List.set_cons_succ,List.set_cons_zero];rfl
 intro gk0 Wk0 hgk0 hbk0 hrowk0
 clear hA hS
 refine wpAnyH_done (by kernel_rfl) ?_ _
 refine NoPanic.normal ?_
 (try simp only [Act.put])
 have HRk0:Hid (RowsW Wk0 [(gk0,V0,153),(W.heap.size+1+1,#[.int .u64 0,.int .u64 0,.int .u64 0,.int .u64 0,.int .u64 0],63),(W.heap.size+1,Lb,63),(W.heap.size,La,63)]):=yh ⟨hrowk0,HRQ0.out.below hbk0⟩
 have HBk0:=yh (zaa HBQ0.out hbk0)
 clear hgk0 hbk0 hrowk0
 go_upto_region 3 with fail
 refine wp_region_noPanic ?_
 refine zai 22 10 153 #[.int .u64 0,.int .u64 0] (by kernel_rfl) (by kernel_rfl) ⟨by kernel_rfl,by kernel_rfl,hzw,fun _ _ _ h=>h⟩ (fun hA hS=>?_)
 refine' yD 0 hA hS ?_
 refine' yD 1 hA hS ?_ (hy:=by intro X hSX;have hc:X.cell? ⟨W.heap.size,0,none⟩=some (.int .u64 (a0:Int)):=by { rw [cell_of_row _ _ _ _ _ _ (HRk0.out.below hSX).tail.tail.tail.head,HLa.out];rfl };go_simp;try with_reducible rfl)
 refine' yD 2 hA hS ?_
 refine' yD 3 hA hS ?_ (hy:=by intro X hSX;have hc:X.cell? ⟨W.heap.size+1,1,none⟩=some (.int .u64 (b1:Int)):=by { rw [cell_of_row _ _ _ _ _ _ (HRk0.out.below hSX).tail.tail.head,HLb.out];rfl };go_simp;try with_reducible rfl)
 refine' yD 5 hA hS ?_
 refine' yD 6 hA hS ?_ (hy:=by intro X hSX;have hc:X.cell? ⟨W.heap.size,1,none⟩=some (.int .u64 (a1:Int)):=by { rw [cell_of_row _ _ _ _ _ _ (HRk0.out.below hSX).tail.tail.tail.head,HLa.out];rfl };go_simp;try with_reducible rfl)
 refine' yD 7 hA hS ?_
 refine' yD 8 hA hS ?_ (hy:=by intro X hSX;have hc:X.cell? ⟨W.heap.size+1,0,none⟩=some (.int .u64 (b0:Int)):=by { rw [cell_of_row _ _ _ _ _ _ (HRk0.out.below hSX).tail.tail.head,HLb.out];rfl };go_simp;try with_reducible rfl)
 refine' yD 10 hA hS ?_
 refine' yD 11 hA hS ?_ (hy:=by intro X hSX;have hc:X.cell? ⟨W.heap.size,2,none⟩=some (.int .u64 (a2:Int)):=by { rw [cell_of_row _ _ _ _ _ _ (HRk0.out.below hSX).tail.tail.tail.head,HLa.out];rfl };go_simp;try with_reducible rfl)
 refine' yD 12 hA hS ?_
 refine' yD 14 hA hS ?_
 refine' yD 15 hA hS ?_ (hy:=by intro X hSX;have hc:X.cell? ⟨W.heap.size,3,none⟩=some (.int .u64 (a3:Int)):=by { rw [cell_of_row _ _ _ _ _ _ (HRk0.out.below hSX).tail.tail.tail.head,HLa.out];rfl };go_simp;try with_reducible rfl)
 refine' yD 16 hA hS ?_
 refine' yD 18 hA hS ?_
 refine' yD 19 hA hS ?_ (hy:=by intro X hSX;have hc:X.cell? ⟨W.heap.size,4,none⟩=some (.int .u64 (a4:Int)):=by { rw [cell_of_row _ _ _ _ _ _ (HRk0.out.below hSX).tail.tail.tail.head,HLa.out];rfl };go_simp;try with_reducible rfl)
 refine' yD 20 hA hS ?_
 refine xE 4 hA hS (fun ok1 Wk1 hS K hK=>?_)
 go_simp
 with_reducible refine (H1_0.out Wk1).mono ?_
 rintro e uk1 ⟨rfl,hbk1⟩
 refine hK.out _ _ hbk1 (fun hS=>?_)
 clear hK K hbk1
 refine xE 9 hA hS (fun ok1 Wk1 hS K hK=>?_)
 go_simp
 with_reducible refine (H1_1.out Wk1).mono ?_
 rintro e uk1 ⟨rfl,hbk1⟩
 refine hK.out _ _ hbk1 (fun hS=>?_)
 clear hK K hbk1
 refine xE 13 hA hS (fun ok1 Wk1 hS K hK=>?_)
 go_simp
 with_reducible refine (H1_2.out Wk1).mono ?_
 rintro e uk1 ⟨rfl,hbk1⟩
 refine hK.out _ _ hbk1 (fun hS=>?_)
 clear hK K hbk1
 refine xE 17 hA hS (fun ok1 Wk1 hS K hK=>?_)
 go_simp
 with_reducible refine (H1_3.out Wk1).mono ?_
 rintro e uk1 ⟨rfl,hbk1⟩
 refine hK.out _ _ hbk1 (fun hS=>?_)
 clear hK K hbk1
 refine xE 21 hA hS (fun ok1 Wk1 hS K hK=>?_)
 go_simp
 with_reducible refine (H1_4.out Wk1).mono ?_
 rintro e uk1 ⟨rfl,hbk1⟩
 refine hK.out _ _ hbk1 (fun hS=>?_)
 clear hK K hbk1
 refine' zay 23 hA rfl (by kernel_rfl) (by kernel_rfl) (by kernel_rfl) hS (by kernel_rfl) rfl (by intro h;cases h) i1 sz1 on1 ?_ ?_
 rotate_left 1
 ·intro g;simp only [List.set_cons_succ,List.set_cons_zero];rfl
 intro gk1 Wk1 hgk1 hbk1 hrowk1
 clear hA hS
 refine wpAnyH_done (by kernel_rfl) ?_ _
 refine NoPanic.normal ?_
 (try simp only [Act.put])
 have HRk1:Hid (RowsW Wk1 [(gk1,V1,153),(gk0,V0,153),(W.heap.size+1+1,#[.int .u64 0,.int .u64 0,.int .u64 0,.int .u64 0,.int .u64 0],63),(W.heap.size+1,Lb,63),(W.heap.size,La,63)]):=yh ⟨hrowk1,HRk0.out.below hbk1⟩
 have HBk1:=yh (zaa HBk0.out hbk1)
 clear hgk1 hbk1 hrowk1
 go_upto_region 4 with fail
 refine wp_region_noPanic ?_
 refine zai 23 11 153 #[.int .u64 0,.int .u64 0] (by kernel_rfl) (by kernel_rfl) ⟨by kernel_rfl,by kernel_rfl,hzw,fun _ _ _ h=>h⟩ (fun hA hS=>?_)
 refine' yD 0 hA hS ?_
 refine' yD 1 hA hS ?_ (hy:=by intro X hSX;have hc:X.cell? ⟨W.heap.size,0,none⟩=some (.int .u64 (a0:Int)):=by { rw [cell_of_row _ _ _ _ _ _ (HRk1.out.below hSX).tail.tail.tail.tail.head,HLa.out];rfl };go_simp;try with_reducible rfl)
 refine' yD 2 hA hS ?_
 refine' yD 3 hA hS ?_ (hy:=by intro X hSX;have hc:X.cell? ⟨W.heap.size+1,2,none⟩=some (.int .u64 (b2:Int)):=by { rw [cell_of_row _ _ _ _ _ _ (HRk1.out.below hSX).tail.tail.tail.head,HLb.out];rfl };go_simp;try with_reducible rfl)
 refine' yD 5 hA hS ?_
 refine' yD 6 hA hS ?_ (hy:=by intro X hSX;have hc:X.cell? ⟨W.heap.size,1,none⟩=some (.int .u64 (a1:Int)):=by { rw [cell_of_row _ _ _ _ _ _ (HRk1.out.below hSX).tail.tail.tail.tail.head,HLa.out];rfl };go_simp;try with_reducible rfl)
 refine' yD 7 hA hS ?_
 refine' yD 8 hA hS ?_ (hy:=by intro X hSX;have hc:X.cell? ⟨W.heap.size+1,1,none⟩=some (.int .u64 (b1:Int)):=by { rw [cell_of_row _ _ _ _ _ _ (HRk1.out.below hSX).tail.tail.tail.head,HLb.out];rfl };go_simp;try with_reducible rfl)
 refine' yD 10 hA hS ?_
 refine' yD 11 hA hS ?_ (hy:=by intro X hSX;have hc:X.cell? ⟨W.heap.size,2,none⟩=some (.int .u64 (a2:Int)):=by { rw [cell_of_row _ _ _ _ _ _ (HRk1.out.below hSX).tail.tail.tail.tail.head,HLa.out];rfl };go_simp;try with_reducible rfl)
 refine' yD 12 hA hS ?_
 refine' yD 13 hA hS ?_ (hy:=by intro X hSX;have hc:X.cell? ⟨W.heap.size+1,0,none⟩=some (.int .u64 (b0:Int)):=by { rw [cell_of_row _ _ _ _ _ _ (HRk1.out.below hSX).tail.tail.tail.head,HLb.out];rfl };go_simp;try with_reducible rfl)
 refine' yD 15 hA hS ?_
 refine' yD 16 hA hS ?_ (hy:=by intro X hSX;have hc:X.cell? ⟨W.heap.size,3,none⟩=some (.int .u64 (a3:Int)):=by { rw [cell_of_row _ _ _ _ _ _ (HRk1.out.below hSX).tail.tail.tail.tail.head,HLa.out];rfl };go_simp;try with_reducible rfl)
 refine' yD 17 hA hS ?_
 refine' yD 19 hA hS ?_
 refine' yD 20 hA hS ?_ (hy:=by intro X hSX;have hc:X.cell? ⟨W.heap.size,4,none⟩=some (.int .u64 (a4:Int)):=by { rw [cell_of_row _ _ _ _ _ _ (HRk1.out.below hSX).tail.tail.tail.tail.head,HLa.out];rfl };go_simp;try with_reducible rfl)
 refine' yD 21 hA hS ?_
 refine xE 4 hA hS (fun ok2 Wk2 hS K hK=>?_)
 go_simp
 with_reducible refine (H2_0.out Wk2).mono ?_
 rintro e uk2 ⟨rfl,hbk2⟩
 refine hK.out _ _ hbk2 (fun hS=>?_)
 clear hK K hbk2
 refine xE 9 hA hS (fun ok2 Wk2 hS K hK=>?_)
 go_simp
 with_reducible refine (H2_1.out Wk2).mono ?_
 rintro e uk2 ⟨rfl,hbk2⟩
 refine hK.out _ _ hbk2 (fun hS=>?_)
 clear hK K hbk2
 refine xE 14 hA hS (fun ok2 Wk2 hS K hK=>?_)
 go_simp
 with_reducible refine (H2_2.out Wk2).mono ?_
 rintro e uk2 ⟨rfl,hbk2⟩
 refine hK.out _ _ hbk2 (fun hS=>?_)
 clear hK K hbk2
 refine xE 18 hA hS (fun ok2 Wk2 hS K hK=>?_)
 go_simp
 with_reducible refine (H2_3.out Wk2).mono ?_
 rintro e uk2 ⟨rfl,hbk2⟩
 refine hK.out _ _ hbk2 (fun hS=>?_)
 clear hK K hbk2
 refine xE 22 hA hS (fun ok2 Wk2 hS K hK=>?_)
 go_simp
 with_reducible refine (H2_4.out Wk2).mono ?_
 rintro e uk2 ⟨rfl,hbk2⟩
 refine hK.out _ _ hbk2 (fun hS=>?_)
 clear hK K hbk2
 refine' zay 24 hA rfl (by kernel_rfl) (by kernel_rfl) (by kernel_rfl) hS (by kernel_rfl) rfl (by intro h;cases h) i2 sz2 on2 ?_ ?_
 rotate_left 1
 ·intro g;simp only [List.set_cons_succ,List.set_cons_zero];rfl
 intro gk2 Wk2 hgk2 hbk2 hrowk2
 clear hA hS
 refine wpAnyH_done (by kernel_rfl) ?_ _
 refine NoPanic.normal ?_
 (try simp only [Act.put])
 have HRk2:Hid (RowsW Wk2 [(gk2,V2,153),(gk1,V1,153),(gk0,V0,153),(W.heap.size+1+1,#[.int .u64 0,.int .u64 0,.int .u64 0,.int .u64 0,.int .u64 0],63),(W.heap.size+1,Lb,63),(W.heap.size,La,63)]):=yh ⟨hrowk2,HRk1.out.below hbk2⟩
 have HBk2:=yh (zaa HBk1.out hbk2)
 clear hgk2 hbk2 hrowk2
 go_upto_region 5 with fail
 refine wp_region_noPanic ?_
 refine zai 24 12 153 #[.int .u64 0,.int .u64 0] (by kernel_rfl) (by kernel_rfl) ⟨by kernel_rfl,by kernel_rfl,hzw,fun _ _ _ h=>h⟩ (fun hA hS=>?_)
 refine' yD 0 hA hS ?_
 refine' yD 1 hA hS ?_ (hy:=by intro X hSX;have hc:X.cell? ⟨W.heap.size,0,none⟩=some (.int .u64 (a0:Int)):=by { rw [cell_of_row _ _ _ _ _ _ (HRk2.out.below hSX).tail.tail.tail.tail.tail.head,HLa.out];rfl };go_simp;try with_reducible rfl)
 refine' yD 2 hA hS ?_
 refine' yD 3 hA hS ?_ (hy:=by intro X hSX;have hc:X.cell? ⟨W.heap.size+1,3,none⟩=some (.int .u64 (b3:Int)):=by { rw [cell_of_row _ _ _ _ _ _ (HRk2.out.below hSX).tail.tail.tail.tail.head,HLb.out];rfl };go_simp;try with_reducible rfl)
 refine' yD 5 hA hS ?_
 refine' yD 6 hA hS ?_ (hy:=by intro X hSX;have hc:X.cell? ⟨W.heap.size,1,none⟩=some (.int .u64 (a1:Int)):=by { rw [cell_of_row _ _ _ _ _ _ (HRk2.out.below hSX).tail.tail.tail.tail.tail.head,HLa.out];rfl };go_simp;try with_reducible rfl)
 refine' yD 7 hA hS ?_
 refine' yD 8 hA hS ?_ (hy:=by intro X hSX;have hc:X.cell? ⟨W.heap.size+1,2,none⟩=some (.int .u64 (b2:Int)):=by { rw [cell_of_row _ _ _ _ _ _ (HRk2.out.below hSX).tail.tail.tail.tail.head,HLb.out];rfl };go_simp;try with_reducible rfl)
 refine' yD 10 hA hS ?_
 refine' yD 11 hA hS ?_ (hy:=by intro X hSX;have hc:X.cell? ⟨W.heap.size,2,none⟩=some (.int .u64 (a2:Int)):=by { rw [cell_of_row _ _ _ _ _ _ (HRk2.out.below hSX).tail.tail.tail.tail.tail.head,HLa.out];rfl };go_simp;try with_reducible rfl)
 refine' yD 12 hA hS ?_
 refine' yD 13 hA hS ?_ (hy:=by intro X hSX;have hc:X.cell? ⟨W.heap.size+1,1,none⟩=some (.int .u64 (b1:Int)):=by { rw [cell_of_row _ _ _ _ _ _ (HRk2.out.below hSX).tail.tail.tail.tail.head,HLb.out];rfl };go_simp;try with_reducible rfl)
 refine' yD 15 hA hS ?_
 refine' yD 16 hA hS ?_ (hy:=by intro X hSX;have hc:X.cell? ⟨W.heap.size,3,none⟩=some (.int .u64 (a3:Int)):=by { rw [cell_of_row _ _ _ _ _ _ (HRk2.out.below hSX).tail.tail.tail.tail.tail.head,HLa.out];rfl };go_simp;try with_reducible rfl)
 refine' yD 17 hA hS ?_
 refine' yD 18 hA hS ?_ (hy:=by intro X hSX;have hc:X.cell? ⟨W.heap.size+1,0,none⟩=some (.int .u64 (b0:Int)):=by { rw [cell_of_row _ _ _ _ _ _ (HRk2.out.below hSX).tail.tail.tail.tail.head,HLb.out];rfl };go_simp;try with_reducible rfl)
 refine' yD 20 hA hS ?_
 refine' yD 21 hA hS ?_ (hy:=by intro X hSX;have hc:X.cell? ⟨W.heap.size,4,none⟩=some (.int .u64 (a4:Int)):=by { rw [cell_of_row _ _ _ _ _ _ (HRk2.out.below hSX).tail.tail.tail.tail.tail.head,HLa.out];rfl };go_simp;try with_reducible rfl)
 refine' yD 22 hA hS ?_
 refine xE 4 hA hS (fun ok3 Wk3 hS K hK=>?_)
 go_simp
 with_reducible refine (H3_0.out Wk3).mono ?_
 rintro e uk3 ⟨rfl,hbk3⟩
 refine hK.out _ _ hbk3 (fun hS=>?_)
 clear hK K hbk3
 refine xE 9 hA hS (fun ok3 Wk3 hS K hK=>?_)
 go_simp
 with_reducible refine (H3_1.out Wk3).mono ?_
 rintro e uk3 ⟨rfl,hbk3⟩
 refine hK.out _ _ hbk3 (fun hS=>?_)
 clear hK K hbk3
 refine xE 14 hA hS (fun ok3 Wk3 hS K hK=>?_)
 go_simp
 with_reducible refine (H3_2.out Wk3).mono ?_
 rintro e uk3 ⟨rfl,hbk3⟩
 refine hK.out _ _ hbk3 (fun hS=>?_)
 clear hK K hbk3
 refine xE 19 hA hS (fun ok3 Wk3 hS K hK=>?_)
 go_simp
 with_reducible refine (H3_3.out Wk3).mono ?_
 rintro e uk3 ⟨rfl,hbk3⟩
 refine hK.out _ _ hbk3 (fun hS=>?_)
 clear hK K hbk3
 refine xE 23 hA hS (fun ok3 Wk3 hS K hK=>?_)
 go_simp
 with_reducible refine (H3_4.out Wk3).mono ?_
 rintro e uk3 ⟨rfl,hbk3⟩
 refine hK.out _ _ hbk3 (fun hS=>?_)
 clear hK K hbk3
 refine' zay 25 hA rfl (by kernel_rfl) (by kernel_rfl) (by kernel_rfl) hS (by kernel_rfl) rfl (by intro h;cases h) i3 sz3 on3 ?_ ?_
 rotate_left 1
 ·intro g;simp only [List.set_cons_succ,List.set_cons_zero];rfl
 intro gk3 Wk3 hgk3 hbk3 hrowk3
 clear hA hS
 refine wpAnyH_done (by kernel_rfl) ?_ _
 refine NoPanic.normal ?_
 (try simp only [Act.put])
 have HRk3:Hid (RowsW Wk3 [(gk3,V3,153),(gk2,V2,153),(gk1,V1,153),(gk0,V0,153),(W.heap.size+1+1,#[.int .u64 0,.int .u64 0,.int .u64 0,.int .u64 0,.int .u64 0],63),(W.heap.size+1,Lb,63),(W.heap.size,La,63)]):=yh ⟨hrowk3,HRk2.out.below hbk3⟩
 have HBk3:=yh (zaa HBk2.out hbk3)
 clear hgk3 hbk3 hrowk3
 go_upto_region 6 with fail
 refine wp_region_noPanic ?_
 refine zai 25 13 153 #[.int .u64 0,.int .u64 0] (by kernel_rfl) (by kernel_rfl) ⟨by kernel_rfl,by kernel_rfl,hzw,fun _ _ _ h=>h⟩ (fun hA hS=>?_)
 refine' yD 0 hA hS ?_
 refine' yD 1 hA hS ?_ (hy:=by intro X hSX;have hc:X.cell? ⟨W.heap.size,0,none⟩=some (.int .u64 (a0:Int)):=by { rw [cell_of_row _ _ _ _ _ _ (HRk3.out.below hSX).tail.tail.tail.tail.tail.tail.head,HLa.out];rfl };go_simp;try with_reducible rfl)
 refine' yD 2 hA hS ?_
 refine' yD 3 hA hS ?_ (hy:=by intro X hSX;have hc:X.cell? ⟨W.heap.size+1,4,none⟩=some (.int .u64 (b4:Int)):=by { rw [cell_of_row _ _ _ _ _ _ (HRk3.out.below hSX).tail.tail.tail.tail.tail.head,HLb.out];rfl };go_simp;try with_reducible rfl)
 refine' yD 5 hA hS ?_
 refine' yD 6 hA hS ?_ (hy:=by intro X hSX;have hc:X.cell? ⟨W.heap.size,1,none⟩=some (.int .u64 (a1:Int)):=by { rw [cell_of_row _ _ _ _ _ _ (HRk3.out.below hSX).tail.tail.tail.tail.tail.tail.head,HLa.out];rfl };go_simp;try with_reducible rfl)
 refine' yD 7 hA hS ?_
 refine' yD 8 hA hS ?_ (hy:=by intro X hSX;have hc:X.cell? ⟨W.heap.size+1,3,none⟩=some (.int .u64 (b3:Int)):=by { rw [cell_of_row _ _ _ _ _ _ (HRk3.out.below hSX).tail.tail.tail.tail.tail.head,HLb.out];rfl };go_simp;try with_reducible rfl)
 refine' yD 10 hA hS ?_
 refine' yD 11 hA hS ?_ (hy:=by intro X hSX;have hc:X.cell? ⟨W.heap.size,2,none⟩=some (.int .u64 (a2:Int)):=by { rw [cell_of_row _ _ _ _ _ _ (HRk3.out.below hSX).tail.tail.tail.tail.tail.tail.head,HLa.out];rfl };go_simp;try with_reducible rfl)
 refine' yD 12 hA hS ?_
 refine' yD 13 hA hS ?_ (hy:=by intro X hSX;have hc:X.cell? ⟨W.heap.size+1,2,none⟩=some (.int .u64 (b2:Int)):=by { rw [cell_of_row _ _ _ _ _ _ (HRk3.out.below hSX).tail.tail.tail.tail.tail.head,HLb.out];rfl };go_simp;try with_reducible rfl)
 refine' yD 15 hA hS ?_
 refine' yD 16 hA hS ?_ (hy:=by intro X hSX;have hc:X.cell? ⟨W.heap.size,3,none⟩=some (.int .u64 (a3:Int)):=by { rw [cell_of_row _ _ _ _ _ _ (HRk3.out.below hSX).tail.tail.tail.tail.tail.tail.head,HLa.out];rfl };go_simp;try with_reducible rfl)
 refine' yD 17 hA hS ?_
 refine' yD 18 hA hS ?_ (hy:=by intro X hSX;have hc:X.cell? ⟨W.heap.size+1,1,none⟩=some (.int .u64 (b1:Int)):=by { rw [cell_of_row _ _ _ _ _ _ (HRk3.out.below hSX).tail.tail.tail.tail.tail.head,HLb.out];rfl };go_simp;try with_reducible rfl)
 refine' yD 20 hA hS ?_
 refine' yD 21 hA hS ?_ (hy:=by intro X hSX;have hc:X.cell? ⟨W.heap.size,4,none⟩=some (.int .u64 (a4:Int)):=by { rw [cell_of_row _ _ _ _ _ _ (HRk3.out.below hSX).tail.tail.tail.tail.tail.tail.head,HLa.out];rfl };go_simp;try with_reducible rfl)
 refine' yD 22 hA hS ?_
 refine' yD 23 hA hS ?_ (hy:=by intro X hSX;have hc:X.cell? ⟨W.heap.size+1,0,none⟩=some (.int .u64 (b0:Int)):=by { rw [cell_of_row _ _ _ _ _ _ (HRk3.out.below hSX).tail.tail.tail.tail.tail.head,HLb.out];rfl };go_simp;try with_reducible rfl)
 refine xE 4 hA hS (fun ok4 Wk4 hS K hK=>?_)
 go_simp
 with_reducible refine (H4_0.out Wk4).mono ?_
 rintro e uk4 ⟨rfl,hbk4⟩
 refine hK.out _ _ hbk4 (fun hS=>?_)
 clear hK K hbk4
 refine xE 9 hA hS (fun ok4 Wk4 hS K hK=>?_)
 go_simp
 with_reducible refine (H4_1.out Wk4).mono ?_
 rintro e uk4 ⟨rfl,hbk4⟩
 refine hK.out _ _ hbk4 (fun hS=>?_)
 clear hK K hbk4
 refine xE 14 hA hS (fun ok4 Wk4 hS K hK=>?_)
 go_simp
 with_reducible refine (H4_2.out Wk4).mono ?_
 rintro e uk4 ⟨rfl,hbk4⟩
 refine hK.out _ _ hbk4 (fun hS=>?_)
 clear hK K hbk4
 refine xE 19 hA hS (fun ok4 Wk4 hS K hK=>?_)
 go_simp
 with_reducible refine (H4_3.out Wk4).mono ?_
 rintro e uk4 ⟨rfl,hbk4⟩
 refine hK.out _ _ hbk4 (fun hS=>?_)
 clear hK K hbk4
 refine xE 24 hA hS (fun ok4 Wk4 hS K hK=>?_)
 go_simp
 with_reducible refine (H4_4.out Wk4).mono ?_
 rintro e uk4 ⟨rfl,hbk4⟩
 refine hK.out _ _ hbk4 (fun hS=>?_)
 clear hK K hbk4
 refine' zay 26 hA rfl (by kernel_rfl) (by kernel_rfl) (by kernel_rfl) hS (by kernel_rfl) rfl (by intro h;cases h) i4 sz4 on4 ?_ ?_
 rotate_left 1
 ·intro g;simp only [List.set_cons_succ,List.set_cons_zero];rfl
 intro gk4 Wk4 hgk4 hbk4 hrowk4
 clear hA hS
 refine wpAnyH_done (by kernel_rfl) ?_ _
 refine NoPanic.normal ?_
 (try simp only [Act.put])
 have HRk4:Hid (RowsW Wk4 [(gk4,V4,153),(gk3,V3,153),(gk2,V2,153),(gk1,V1,153),(gk0,V0,153),(W.heap.size+1+1,#[.int .u64 0,.int .u64 0,.int .u64 0,.int .u64 0,.int .u64 0],63),(W.heap.size+1,Lb,63),(W.heap.size,La,63)]):=yh ⟨hrowk4,HRk3.out.below hbk4⟩
 have HBk4:=yh (zaa HBk3.out hbk4)
 clear hgk4 hbk4 hrowk4
 go_upto_region 7 with fail
 have l0:=HRk4.out.tail.tail.tail.tail.head
 have l1:=HRk4.out.tail.tail.tail.head
 have l2:=HRk4.out.tail.tail.head
 have l3:=HRk4.out.tail.head
 have l4:=HRk4.out.head
 go_wp2_with (first | (refine zaj (o:=⟨some 141,_,_,_,_,_⟩) rfl (.agg V0) (zac rfl rfl l0 Tryz.underlying153 rfl i0) ?_) | (refine zaj (o:=⟨some 142,_,_,_,_,_⟩) rfl (.agg V1) (zac rfl rfl l1 Tryz.underlying153 rfl i1) ?_) | (refine zaj (o:=⟨some 143,_,_,_,_,_⟩) rfl (.agg V2) (zac rfl rfl l2 Tryz.underlying153 rfl i2) ?_) | (refine zaj (o:=⟨some 144,_,_,_,_,_⟩) rfl (.agg V3) (zac rfl rfl l3 Tryz.underlying153 rfl i3) ?_) | (refine zaj (o:=⟨some 145,_,_,_,_,_⟩) rfl (.agg V4) (zac rfl rfl l4 Tryz.underlying153 rfl i4) ?_))
 with_reducible refine (HN.out _).mono ?_
 rintro e w2 ⟨S,rfl,hR,hb2⟩
 have hr2:=(HRk4.out.below hb2).tail.tail.tail.tail.tail.head
 have iS:=feR_info hR
 have sS:=feR_size hR
 have oS:=feR_one hR
 have HP:Hid (∀ w',Below W.heap.size W w'→RetFe feR W nn (.returned (.agg S)) w'):=yh fun w' hb=>⟨S,rfl,hR,hb⟩
 have HE:Hid (Below W.heap.size W (w2.setRow (W.heap.size+1+1) S)):=yh (zad (zaa HBk4.out hb2) (by omega))
 clear hb2 hR
 go_wp2_with (refine yj S hr2 iS sS oS ?_)
 (try simp only [Exit.inBlock,Exit.then])
 refine bodyPost_ret (results_cell_row rfl _ _ (W.heap.size+1+1) _ S _ _ rfl (setRow_heap w2 _ _ _ _ _ hr2) Tryz.underlying63 rfl iS) rfl ?_
 exact HP.out _ HE.out
end Go.Proofs.YtkgodlcnoenmbaaGreat
namespace Go.Proofs.YtkgodlcnoenmbaaGreat
open Go.RowKit
set_option linter.unusedVariables false
set_option maxRecDepth 100000
theorem val5_square (a0 a1 a2 a3 a4:Nat):val5 (a0*a0+(2*a1)*(19*a4)+(2*a2)*(19*a3)) ((2*a0)*a1+(2*a2)*(19*a4)+a3*(19*a3)) ((2*a0)*a2+a1*a1+(2*a3)*(19*a4)) ((2*a0)*a3+(2*a1)*a2+a4*(19*a4)) ((2*a0)*a4+(2*a1)*a3+a2*a2) % PP=(val5 a0 a1 a2 a3 a4 % PP*(val5 a0 a1 a2 a3 a4 % PP)) % PP:=by
 rw [← val5_mul]
 have h0:a0*a0+(2*a1)*(19*a4)+(2*a2)*(19*a3)=a0*a0+a1*(19*a4)+a2*(19*a3)+a3*(19*a2)+a4*(19*a1):=by grind
 have h1:(2*a0)*a1+(2*a2)*(19*a4)+a3*(19*a3)=a0*a1+a1*a0+a2*(19*a4)+a3*(19*a3)+a4*(19*a2):=by grind
 have h2:(2*a0)*a2+a1*a1+(2*a3)*(19*a4)=a0*a2+a1*a1+a2*a0+a3*(19*a4)+a4*(19*a3):=by grind
 have h3:(2*a0)*a3+(2*a1)*a2+a4*(19*a4)=a0*a3+a1*a2+a2*a1+a3*a0+a4*(19*a4):=by grind
 have h4:(2*a0)*a4+(2*a1)*a3+a2*a2=a0*a4+a1*a3+a2*a2+a3*a1+a4*a0:=by grind
 rw [h0,h1,h2,h3,h4]
set_option maxHeartbeats 6400000 in
theorem fesquare_any {c:Array Value} {x:Nat} (hx:feR c x) (W:World):Calls Tryz.prog 79 #[.agg c] W (RetFe feR W ((x*x) % PP)):=by
 obtain ⟨a0,a1,a2,a3,a4,rfl,ha0,ha1,ha2,ha3,ha4,rfl⟩:=hx
 rw [← val5_square]
 obtain ⟨d0,wd0,hd0,ed0⟩:∃ f:Nat,IntKind.u64.wrap (2*(a0:Int))=(f:Int)∧f<4503599627894784∧2*a0=f:=⟨2*a0,by rw [IntKind.wrap_u64];unfold L51 at ha0;omega,by unfold L51 at ha0;omega,rfl⟩
 obtain ⟨d1,wd1,hd1,ed1⟩:∃ f:Nat,IntKind.u64.wrap (2*(a1:Int))=(f:Int)∧f<4503599627894784∧2*a1=f:=⟨2*a1,by rw [IntKind.wrap_u64];unfold L51 at ha1;omega,by unfold L51 at ha1;omega,rfl⟩
 obtain ⟨e2,we2,he2,ee2⟩:∃ f:Nat,IntKind.u64.wrap (2*(a2:Int))=(f:Int)∧f<4503599627894784∧2*a2=f:=⟨2*a2,by rw [IntKind.wrap_u64];unfold L51 at ha2;omega,by unfold L51 at ha2;omega,rfl⟩
 obtain ⟨e3,we3,he3,ee3⟩:∃ f:Nat,IntKind.u64.wrap (2*(a3:Int))=(f:Int)∧f<4503599627894784∧2*a3=f:=⟨2*a3,by rw [IntKind.wrap_u64];unfold L51 at ha3;omega,by unfold L51 at ha3;omega,rfl⟩
 obtain ⟨f3,wf3,hf3,ef3⟩:∃ f:Nat,IntKind.u64.wrap (19*(a3:Int))=(f:Int)∧f<42784196465000448∧19*a3=f:=⟨19*a3,by rw [IntKind.wrap_u64];unfold L51 at ha3;omega,by unfold L51 at ha3;omega,rfl⟩
 obtain ⟨f4,wf4,hf4,ef4⟩:∃ f:Nat,IntKind.u64.wrap (19*(a4:Int))=(f:Int)∧f<42784196465000448∧19*a4=f:=⟨19*a4,by rw [IntKind.wrap_u64];unfold L51 at ha4;omega,by unfold L51 at ha4;omega,rfl⟩
 rw [ed0,ed1,ee2,ee3,ef3,ef4]
 unfold L51 at *
 have B0:a0*a0+d1*f4+e2*f3<1298074214633706907132624082305024:=by
  have p0:a0*a0≤5070602402093504723173315706881:=Nat.le_trans (Nat.mul_le_mul (Nat.le_of_lt_succ ha0) (Nat.le_of_lt_succ ha0)) (by decide)
  have p1:d1*f4≤192682891279553303329575763968001:=Nat.le_trans (Nat.mul_le_mul (Nat.le_of_lt_succ hd1) (Nat.le_of_lt_succ hf4)) (by decide)
  have p2:e2*f3≤192682891279553303329575763968001:=Nat.le_trans (Nat.mul_le_mul (Nat.le_of_lt_succ he2) (Nat.le_of_lt_succ hf3)) (by decide)
  omega
 have B1:d0*a1+e2*f4+a3*f3<1298074214633706907132624082305024:=by
  have p0:d0*a1≤10141204804187011698146445361153:=Nat.le_trans (Nat.mul_le_mul (Nat.le_of_lt_succ hd0) (Nat.le_of_lt_succ ha1)) (by decide)
  have p1:e2*f4≤192682891279553303329575763968001:=Nat.le_trans (Nat.mul_le_mul (Nat.le_of_lt_succ he2) (Nat.le_of_lt_succ hf4)) (by decide)
  have p2:a3*f3≤96341445639776630272689649483777:=Nat.le_trans (Nat.mul_le_mul (Nat.le_of_lt_succ ha3) (Nat.le_of_lt_succ hf3)) (by decide)
  omega
 have B2:d0*a2+a1*a1+e3*f4<1298074214633706907132624082305024:=by
  have p0:d0*a2≤10141204804187011698146445361153:=Nat.le_trans (Nat.mul_le_mul (Nat.le_of_lt_succ hd0) (Nat.le_of_lt_succ ha2)) (by decide)
  have p1:a1*a1≤5070602402093504723173315706881:=Nat.le_trans (Nat.mul_le_mul (Nat.le_of_lt_succ ha1) (Nat.le_of_lt_succ ha1)) (by decide)
  have p2:e3*f4≤192682891279553303329575763968001:=Nat.le_trans (Nat.mul_le_mul (Nat.le_of_lt_succ he3) (Nat.le_of_lt_succ hf4)) (by decide)
  omega
 have B3:d0*a3+d1*a2+a4*f4<1298074214633706907132624082305024:=by
  have p0:d0*a3≤10141204804187011698146445361153:=Nat.le_trans (Nat.mul_le_mul (Nat.le_of_lt_succ hd0) (Nat.le_of_lt_succ ha3)) (by decide)
  have p1:d1*a2≤10141204804187011698146445361153:=Nat.le_trans (Nat.mul_le_mul (Nat.le_of_lt_succ hd1) (Nat.le_of_lt_succ ha2)) (by decide)
  have p2:a4*f4≤96341445639776630272689649483777:=Nat.le_trans (Nat.mul_le_mul (Nat.le_of_lt_succ ha4) (Nat.le_of_lt_succ hf4)) (by decide)
  omega
 have B4:d0*a4+d1*a3+a2*a2<1298074214633706907132624082305024:=by
  have p0:d0*a4≤10141204804187011698146445361153:=Nat.le_trans (Nat.mul_le_mul (Nat.le_of_lt_succ hd0) (Nat.le_of_lt_succ ha4)) (by decide)
  have p1:d1*a3≤10141204804187011698146445361153:=Nat.le_trans (Nat.mul_le_mul (Nat.le_of_lt_succ hd1) (Nat.le_of_lt_succ ha3)) (by decide)
  have p2:a2*a2≤5070602402093504723173315706881:=Nat.le_trans (Nat.mul_le_mul (Nat.le_of_lt_succ ha2) (Nat.le_of_lt_succ ha2)) (by decide)
  omega
 have HN:Hid (∀ W':World,Calls Tryz.prog 122 #[.agg (wide2 (a0*a0+d1*f4+e2*f3)),.agg (wide2 (d0*a1+e2*f4+a3*f3)),.agg (wide2 (d0*a2+a1*a1+e3*f4)),.agg (wide2 (d0*a3+d1*a2+a4*f4)),.agg (wide2 (d0*a4+d1*a3+a2*a2))] W' (RetFe feR W' (val5 (a0*a0+d1*f4+e2*f3) (d0*a1+e2*f4+a3*f3) (d0*a2+a1*a1+e3*f4) (d0*a3+d1*a2+a4*f4) (d0*a4+d1*a3+a2*a2) % PP))):=yh fun W'=>narrowed_any _ _ _ _ _ B0 B1 B2 B3 B4 W'
 have H0_0:Hid (∀ W':World,Calls Tryz.prog 120 #[.int .u64 (a0:Int),.int .u64 (a0:Int)] W' (RetV W' (.agg (wide2 (a0*a0))))):=yh fun W'=>zaK a0 a0 (by omega) (by omega) W'
 have H0_1:Hid (∀ W':World,Calls Tryz.prog 121 #[.agg (wide2 (a0*a0)),.int .u64 (d1:Int),.int .u64 (f4:Int)] W' (RetV W' (.agg (wide2 (a0*a0+d1*f4))))):=yh fun W'=>zao (a0*a0) d1 f4 (by omega) (by omega) (by have:=B0;omega) W'
 have H0_2:Hid (∀ W':World,Calls Tryz.prog 121 #[.agg (wide2 (a0*a0+d1*f4)),.int .u64 (e2:Int),.int .u64 (f3:Int)] W' (RetV W' (.agg (wide2 (a0*a0+d1*f4+e2*f3))))):=yh fun W'=>zao (a0*a0+d1*f4) e2 f3 (by omega) (by omega) (by have:=B0;omega) W'
 have H1_0:Hid (∀ W':World,Calls Tryz.prog 120 #[.int .u64 (d0:Int),.int .u64 (a1:Int)] W' (RetV W' (.agg (wide2 (d0*a1))))):=yh fun W'=>zaK d0 a1 (by omega) (by omega) W'
 have H1_1:Hid (∀ W':World,Calls Tryz.prog 121 #[.agg (wide2 (d0*a1)),.int .u64 (e2:Int),.int .u64 (f4:Int)] W' (RetV W' (.agg (wide2 (d0*a1+e2*f4))))):=yh fun W'=>zao (d0*a1) e2 f4 (by omega) (by omega) (by have:=B1;omega) W'
 have H1_2:Hid (∀ W':World,Calls Tryz.prog 121 #[.agg (wide2 (d0*a1+e2*f4)),.int .u64 (a3:Int),.int .u64 (f3:Int)] W' (RetV W' (.agg (wide2 (d0*a1+e2*f4+a3*f3))))):=yh fun W'=>zao (d0*a1+e2*f4) a3 f3 (by omega) (by omega) (by have:=B1;omega) W'
 have H2_0:Hid (∀ W':World,Calls Tryz.prog 120 #[.int .u64 (d0:Int),.int .u64 (a2:Int)] W' (RetV W' (.agg (wide2 (d0*a2))))):=yh fun W'=>zaK d0 a2 (by omega) (by omega) W'
 have H2_1:Hid (∀ W':World,Calls Tryz.prog 121 #[.agg (wide2 (d0*a2)),.int .u64 (a1:Int),.int .u64 (a1:Int)] W' (RetV W' (.agg (wide2 (d0*a2+a1*a1))))):=yh fun W'=>zao (d0*a2) a1 a1 (by omega) (by omega) (by have:=B2;omega) W'
 have H2_2:Hid (∀ W':World,Calls Tryz.prog 121 #[.agg (wide2 (d0*a2+a1*a1)),.int .u64 (e3:Int),.int .u64 (f4:Int)] W' (RetV W' (.agg (wide2 (d0*a2+a1*a1+e3*f4))))):=yh fun W'=>zao (d0*a2+a1*a1) e3 f4 (by omega) (by omega) (by have:=B2;omega) W'
 have H3_0:Hid (∀ W':World,Calls Tryz.prog 120 #[.int .u64 (d0:Int),.int .u64 (a3:Int)] W' (RetV W' (.agg (wide2 (d0*a3))))):=yh fun W'=>zaK d0 a3 (by omega) (by omega) W'
 have H3_1:Hid (∀ W':World,Calls Tryz.prog 121 #[.agg (wide2 (d0*a3)),.int .u64 (d1:Int),.int .u64 (a2:Int)] W' (RetV W' (.agg (wide2 (d0*a3+d1*a2))))):=yh fun W'=>zao (d0*a3) d1 a2 (by omega) (by omega) (by have:=B3;omega) W'
 have H3_2:Hid (∀ W':World,Calls Tryz.prog 121 #[.agg (wide2 (d0*a3+d1*a2)),.int .u64 (a4:Int),.int .u64 (f4:Int)] W' (RetV W' (.agg (wide2 (d0*a3+d1*a2+a4*f4))))):=yh fun W'=>zao (d0*a3+d1*a2) a4 f4 (by omega) (by omega) (by have:=B3;omega) W'
 have H4_0:Hid (∀ W':World,Calls Tryz.prog 120 #[.int .u64 (d0:Int),.int .u64 (a4:Int)] W' (RetV W' (.agg (wide2 (d0*a4))))):=yh fun W'=>zaK d0 a4 (by omega) (by omega) W'
 have H4_1:Hid (∀ W':World,Calls Tryz.prog 121 #[.agg (wide2 (d0*a4)),.int .u64 (d1:Int),.int .u64 (a3:Int)] W' (RetV W' (.agg (wide2 (d0*a4+d1*a3))))):=yh fun W'=>zao (d0*a4) d1 a3 (by omega) (by omega) (by have:=B4;omega) W'
 have H4_2:Hid (∀ W':World,Calls Tryz.prog 121 #[.agg (wide2 (d0*a4+d1*a3)),.int .u64 (a2:Int),.int .u64 (a2:Int)] W' (RetV W' (.agg (wide2 (d0*a4+d1*a3+a2*a2))))):=yh fun W'=>zao (d0*a4+d1*a3) a2 a2 (by omega) (by omega) (by have:=B4;omega) W'
 generalize val5 (a0*a0+d1*f4+e2*f3) (d0*a1+e2*f4+a3*f3) (d0*a2+a1*a1+e3*f4) (d0*a3+d1*a2+a4*f4) (d0*a4+d1*a3+a2*a2) % PP=nn at *
 clear B0 B1 B2 B3 B4 ed0 ed1 ee2 ee3 ef3 ef4
 generalize wide2 (a0*a0)=U0_0 at *
 generalize wide2 (a0*a0+d1*f4)=U0_1 at *
 have i0:=zaB (a0*a0+d1*f4+e2*f3)
 have on0:=zaO (a0*a0+d1*f4+e2*f3)
 have sz0:(#[.int .u64 0,.int .u64 0]:Array Value).size=(wide2 (a0*a0+d1*f4+e2*f3)).size:=rfl
 generalize wide2 (a0*a0+d1*f4+e2*f3)=V0 at *
 generalize wide2 (d0*a1)=U1_0 at *
 generalize wide2 (d0*a1+e2*f4)=U1_1 at *
 have i1:=zaB (d0*a1+e2*f4+a3*f3)
 have on1:=zaO (d0*a1+e2*f4+a3*f3)
 have sz1:(#[.int .u64 0,.int .u64 0]:Array Value).size=(wide2 (d0*a1+e2*f4+a3*f3)).size:=rfl
 generalize wide2 (d0*a1+e2*f4+a3*f3)=V1 at *
 generalize wide2 (d0*a2)=U2_0 at *
 generalize wide2 (d0*a2+a1*a1)=U2_1 at *
 have i2:=zaB (d0*a2+a1*a1+e3*f4)
 have on2:=zaO (d0*a2+a1*a1+e3*f4)
 have sz2:(#[.int .u64 0,.int .u64 0]:Array Value).size=(wide2 (d0*a2+a1*a1+e3*f4)).size:=rfl
 generalize wide2 (d0*a2+a1*a1+e3*f4)=V2 at *
 generalize wide2 (d0*a3)=U3_0 at *
 generalize wide2 (d0*a3+d1*a2)=U3_1 at *
 have i3:=zaB (d0*a3+d1*a2+a4*f4)
 have on3:=zaO (d0*a3+d1*a2+a4*f4)
 have sz3:(#[.int .u64 0,.int .u64 0]:Array Value).size=(wide2 (d0*a3+d1*a2+a4*f4)).size:=rfl
 generalize wide2 (d0*a3+d1*a2+a4*f4)=V3 at *
 generalize wide2 (d0*a4)=U4_0 at *
 generalize wide2 (d0*a4+d1*a3)=U4_1 at *
 have i4:=zaB (d0*a4+d1*a3+a2*a2)
 have on4:=zaO (d0*a4+d1*a3+a2*a2)
 have sz4:(#[.int .u64 0,.int .u64 0]:Array Value).size=(wide2 (d0*a4+d1*a3+a2*a2)).size:=rfl
 generalize wide2 (d0*a4+d1*a3+a2*a2)=V4 at *
 have zd0:IntKind.u64.wrap (d0:Int)=(d0:Int):=by rw [IntKind.wrap_u64];omega
 have zd1:IntKind.u64.wrap (d1:Int)=(d1:Int):=by rw [IntKind.wrap_u64];omega
 have ze2:IntKind.u64.wrap (e2:Int)=(e2:Int):=by rw [IntKind.wrap_u64];omega
 have ze3:IntKind.u64.wrap (e3:Int)=(e3:Int):=by rw [IntKind.wrap_u64];omega
 have zf3:IntKind.u64.wrap (f3:Int)=(f3:Int):=by rw [IntKind.wrap_u64];omega
 have zf4:IntKind.u64.wrap (f4:Int)=(f4:Int):=by rw [IntKind.wrap_u64];omega
 clear ha0 ha1 ha2 ha3 ha4 hd0 hd1 he2 he3 hf3 hf4
 have hzw:∀ u,(zeroValue 153).run Tryz.prog u=.ok (.agg #[.int .u64 0,.int .u64 0]) u:=fun u=>zero_arr 153 #[.int .u64 0,.int .u64 0] 2 (by kernel_rfl) u
 obtain ⟨La,hLa⟩:∃ L,limb5 a0 a1 a2 a3 a4=L:=⟨_,rfl⟩
 rw [hLa]
 have HLa:Hid (La=limb5 a0 a1 a2 a3 a4):=yh hLa.symm
 clear hLa
 have hrr:RowsW ((W.alloc (.cells La 63)).alloc (.cells #[.int .u64 0,.int .u64 0,.int .u64 0,.int .u64 0,.int .u64 0] 63)) [(W.heap.size+1,#[.int .u64 0,.int .u64 0,.int .u64 0,.int .u64 0,.int .u64 0],63),(W.heap.size,La,63)]:=by have h:=(RowsW.box (RowsW.box (RowsW.nil W) La 63) #[.int .u64 0,.int .u64 0,.int .u64 0,.int .u64 0,.int .u64 0] 63);simp only [World.size_alloc] at h;exact h
 obtain ⟨W1,hW1⟩:∃ W1,((W.alloc (.cells La 63)).alloc (.cells #[.int .u64 0,.int .u64 0,.int .u64 0,.int .u64 0,.int .u64 0] 63))=W1:=⟨_,rfl⟩
 rw [hW1] at hrr
 have hb1:Below W.heap.size W W1:=by rw [← hW1];exact zab (zab (Below.refl _ _) _) _
 have HR:=yh hrr
 have HB1:=yh hb1
 have HW1:=yh hW1
 clear hrr hb1 hW1
 go_enter Tryz.func79,Tryz.ntmps79
 go_upto_region 1 with fail
 rw [HW1.out]
 have ca0:W1.cell? ⟨W.heap.size,0,none⟩=some (.int .u64 (a0:Int)):=by rw [cell_of_row _ _ _ _ _ _ HR.out.tail.head,HLa.out];rfl
 have ca1:W1.cell? ⟨W.heap.size,1,none⟩=some (.int .u64 (a1:Int)):=by rw [cell_of_row _ _ _ _ _ _ HR.out.tail.head,HLa.out];rfl
 go_quiet (fail)
 obtain ⟨Q0,hQ0⟩:∃ X,W1.drewN nq=X:=⟨_,rfl⟩
 have HRQ0:=yh (show RowsW Q0 [(W.heap.size+1,#[.int .u64 0,.int .u64 0,.int .u64 0,.int .u64 0,.int .u64 0],63),(W.heap.size,La,63)] by rw [← hQ0];exact HR.out.below (zaD (Below.refl _ _) nq))
 have HBQ0:=yh (show Below W.heap.size W Q0 by rw [← hQ0];exact zaD HB1.out nq)
 rw [hQ0]
 clear hQ0 nq ca0 ca1
 go_upto_region 2 with fail
 have ca3:Q0.cell? ⟨W.heap.size,3,none⟩=some (.int .u64 (a3:Int)):=by rw [cell_of_row _ _ _ _ _ _ HRQ0.out.tail.head,HLa.out];rfl
 have ca4:Q0.cell? ⟨W.heap.size,4,none⟩=some (.int .u64 (a4:Int)):=by rw [cell_of_row _ _ _ _ _ _ HRQ0.out.tail.head,HLa.out];rfl
 go_quiet (fail)
 obtain ⟨Q1,hQ1⟩:∃ X,Q0.drewN nq=X:=⟨_,rfl⟩
 have HRQ1:=yh (show RowsW Q1 [(W.heap.size+1,#[.int .u64 0,.int .u64 0,.int .u64 0,.int .u64 0,.int .u64 0],63),(W.heap.size,La,63)] by rw [← hQ1];exact HRQ0.out.below (zaD (Below.refl _ _) nq))
 have HBQ1:=yh (show Below W.heap.size W Q1 by rw [← hQ1];exact zaD HBQ0.out nq)
 rw [hQ1]
 clear hQ1 nq ca3 ca4
 go_upto_region 3 with fail
 refine wp_region_noPanic ?_
 refine zai 13 7 153 #[.int .u64 0,.int .u64 0] (by kernel_rfl) (by kernel_rfl) ⟨by kernel_rfl,by kernel_rfl,hzw,fun _ _ _ h=>h⟩ (fun hA hS=>?_)
 refine' yD 0 hA hS ?_
 refine' yD 1 hA hS ?_ (hy:=by intro X hSX;have hc:X.cell? ⟨W.heap.size,0,none⟩=some (.int .u64 (a0:Int)):=by { rw [cell_of_row _ _ _ _ _ _ (HRQ1.out.below hSX).tail.head,HLa.out];rfl };go_simp;try with_reducible rfl)
 refine' yD 2 hA hS ?_
 refine' yD 3 hA hS ?_ (hy:=by intro X hSX;have hc:X.cell? ⟨W.heap.size,0,none⟩=some (.int .u64 (a0:Int)):=by { rw [cell_of_row _ _ _ _ _ _ (HRQ1.out.below hSX).tail.head,HLa.out];rfl };go_simp;try with_reducible rfl)
 refine' yD 5 hA hS ?_
 refine' yD 6 hA hS ?_
 refine' yD 8 hA hS ?_
 refine' yD 9 hA hS ?_ (hy:=by intro X hSX;have hc:X.cell? ⟨W.heap.size,2,none⟩=some (.int .u64 (a2:Int)):=by { rw [cell_of_row _ _ _ _ _ _ (HRQ1.out.below hSX).tail.head,HLa.out];rfl };go_simp;try with_reducible rfl)
 refine' yD 10 hA hS ?_
 refine' yD 11 hA hS ?_
 refine xE 4 hA hS (fun ok0 Wk0 hS K hK=>?_)
 go_simp
 with_reducible refine (H0_0.out Wk0).mono ?_
 rintro e uk0 ⟨rfl,hbk0⟩
 refine hK.out _ _ hbk0 (fun hS=>?_)
 clear hK K hbk0
 refine xE 7 hA hS (fun ok0 Wk0 hS K hK=>?_)
 go_simp
 with_reducible refine (H0_1.out Wk0).mono ?_
 rintro e uk0 ⟨rfl,hbk0⟩
 refine hK.out _ _ hbk0 (fun hS=>?_)
 clear hK K hbk0
 refine xE 12 hA hS (fun ok0 Wk0 hS K hK=>?_)
 go_simp
 with_reducible refine (H0_2.out Wk0).mono ?_
 rintro e uk0 ⟨rfl,hbk0⟩
 refine hK.out _ _ hbk0 (fun hS=>?_)
 clear hK K hbk0
 refine' zay 14 hA rfl (by kernel_rfl) (by kernel_rfl) (by kernel_rfl) hS (by kernel_rfl) rfl (by intro h;cases h) i0 sz0 on0 ?_ ?_
 rotate_left 1
 ·intro g;simp only [List.set_cons_succ,List.set_cons_zero];rfl
 intro gk0 Wk0 hgk0 hbk0 hrowk0
 clear hA hS
 refine wpAnyH_done (by kernel_rfl) ?_ _
 refine NoPanic.normal ?_
 (try simp only [Act.put])
 have HRk0:Hid (RowsW Wk0 [(gk0,V0,153),(W.heap.size+1,#[.int .u64 0,.int .u64 0,.int .u64 0,.int .u64 0,.int .u64 0],63),(W.heap.size,La,63)]):=yh ⟨hrowk0,HRQ1.out.below hbk0⟩
 have HBk0:=yh (zaa HBQ1.out hbk0)
 clear hgk0 hbk0 hrowk0
 go_upto_region 4 with fail
 refine wp_region_noPanic ?_
 refine zai 13 8 153 #[.int .u64 0,.int .u64 0] (by kernel_rfl) (by kernel_rfl) ⟨by kernel_rfl,by kernel_rfl,hzw,fun _ _ _ h=>h⟩ (fun hA hS=>?_)
 refine' yD 0 hA hS ?_
 refine' yD 1 hA hS ?_
 refine' yD 2 hA hS ?_ (hy:=by intro X hSX;have hc:X.cell? ⟨W.heap.size,1,none⟩=some (.int .u64 (a1:Int)):=by { rw [cell_of_row _ _ _ _ _ _ (HRk0.out.below hSX).tail.tail.head,HLa.out];rfl };go_simp;try with_reducible rfl)
 refine' yD 4 hA hS ?_
 refine' yD 5 hA hS ?_ (hy:=by intro X hSX;have hc:X.cell? ⟨W.heap.size,2,none⟩=some (.int .u64 (a2:Int)):=by { rw [cell_of_row _ _ _ _ _ _ (HRk0.out.below hSX).tail.tail.head,HLa.out];rfl };go_simp;try with_reducible rfl)
 refine' yD 6 hA hS ?_
 refine' yD 7 hA hS ?_
 refine' yD 9 hA hS ?_
 refine' yD 10 hA hS ?_ (hy:=by intro X hSX;have hc:X.cell? ⟨W.heap.size,3,none⟩=some (.int .u64 (a3:Int)):=by { rw [cell_of_row _ _ _ _ _ _ (HRk0.out.below hSX).tail.tail.head,HLa.out];rfl };go_simp;try with_reducible rfl)
 refine' yD 11 hA hS ?_
 refine xE 3 hA hS (fun ok1 Wk1 hS K hK=>?_)
 go_simp
 with_reducible refine (H1_0.out Wk1).mono ?_
 rintro e uk1 ⟨rfl,hbk1⟩
 refine hK.out _ _ hbk1 (fun hS=>?_)
 clear hK K hbk1
 refine xE 8 hA hS (fun ok1 Wk1 hS K hK=>?_)
 go_simp
 with_reducible refine (H1_1.out Wk1).mono ?_
 rintro e uk1 ⟨rfl,hbk1⟩
 refine hK.out _ _ hbk1 (fun hS=>?_)
 clear hK K hbk1
 refine xE 12 hA hS (fun ok1 Wk1 hS K hK=>?_)
 go_simp
 with_reducible refine (H1_2.out Wk1).mono ?_
 rintro e uk1 ⟨rfl,hbk1⟩
 refine hK.out _ _ hbk1 (fun hS=>?_)
 clear hK K hbk1
 refine' zay 14 hA rfl (by kernel_rfl) (by kernel_rfl) (by kernel_rfl) hS (by kernel_rfl) rfl (by intro h;cases h) i1 sz1 on1 ?_ ?_
 rotate_left 1
 ·intro g;simp only [List.set_cons_succ,List.set_cons_zero];rfl
 intro gk1 Wk1 hgk1 hbk1 hrowk1
 clear hA hS
 refine wpAnyH_done (by kernel_rfl) ?_ _
 refine NoPanic.normal ?_
 (try simp only [Act.put])
 have HRk1:Hid (RowsW Wk1 [(gk1,V1,153),(gk0,V0,153),(W.heap.size+1,#[.int .u64 0,.int .u64 0,.int .u64 0,.int .u64 0,.int .u64 0],63),(W.heap.size,La,63)]):=yh ⟨hrowk1,HRk0.out.below hbk1⟩
 have HBk1:=yh (zaa HBk0.out hbk1)
 clear hgk1 hbk1 hrowk1
 go_upto_region 5 with fail
 refine wp_region_noPanic ?_
 refine zai 14 9 153 #[.int .u64 0,.int .u64 0] (by kernel_rfl) (by kernel_rfl) ⟨by kernel_rfl,by kernel_rfl,hzw,fun _ _ _ h=>h⟩ (fun hA hS=>?_)
 refine' yD 0 hA hS ?_
 refine' yD 1 hA hS ?_
 refine' yD 2 hA hS ?_ (hy:=by intro X hSX;have hc:X.cell? ⟨W.heap.size,2,none⟩=some (.int .u64 (a2:Int)):=by { rw [cell_of_row _ _ _ _ _ _ (HRk1.out.below hSX).tail.tail.tail.head,HLa.out];rfl };go_simp;try with_reducible rfl)
 refine' yD 4 hA hS ?_
 refine' yD 5 hA hS ?_ (hy:=by intro X hSX;have hc:X.cell? ⟨W.heap.size,1,none⟩=some (.int .u64 (a1:Int)):=by { rw [cell_of_row _ _ _ _ _ _ (HRk1.out.below hSX).tail.tail.tail.head,HLa.out];rfl };go_simp;try with_reducible rfl)
 refine' yD 6 hA hS ?_
 refine' yD 7 hA hS ?_ (hy:=by intro X hSX;have hc:X.cell? ⟨W.heap.size,1,none⟩=some (.int .u64 (a1:Int)):=by { rw [cell_of_row _ _ _ _ _ _ (HRk1.out.below hSX).tail.tail.tail.head,HLa.out];rfl };go_simp;try with_reducible rfl)
 refine' yD 9 hA hS ?_
 refine' yD 10 hA hS ?_ (hy:=by intro X hSX;have hc:X.cell? ⟨W.heap.size,3,none⟩=some (.int .u64 (a3:Int)):=by { rw [cell_of_row _ _ _ _ _ _ (HRk1.out.below hSX).tail.tail.tail.head,HLa.out];rfl };go_simp;try with_reducible rfl)
 refine' yD 11 hA hS ?_
 refine' yD 12 hA hS ?_
 refine xE 3 hA hS (fun ok2 Wk2 hS K hK=>?_)
 go_simp
 with_reducible refine (H2_0.out Wk2).mono ?_
 rintro e uk2 ⟨rfl,hbk2⟩
 refine hK.out _ _ hbk2 (fun hS=>?_)
 clear hK K hbk2
 refine xE 8 hA hS (fun ok2 Wk2 hS K hK=>?_)
 go_simp
 with_reducible refine (H2_1.out Wk2).mono ?_
 rintro e uk2 ⟨rfl,hbk2⟩
 refine hK.out _ _ hbk2 (fun hS=>?_)
 clear hK K hbk2
 refine xE 13 hA hS (fun ok2 Wk2 hS K hK=>?_)
 go_simp
 with_reducible refine (H2_2.out Wk2).mono ?_
 rintro e uk2 ⟨rfl,hbk2⟩
 refine hK.out _ _ hbk2 (fun hS=>?_)
 clear hK K hbk2
 refine' zay 15 hA rfl (by kernel_rfl) (by kernel_rfl) (by kernel_rfl) hS (by kernel_rfl) rfl (by intro h;cases h) i2 sz2 on2 ?_ ?_
 rotate_left 1
 ·intro g;simp only [List.set_cons_succ,List.set_cons_zero];rfl
 intro gk2 Wk2 hgk2 hbk2 hrowk2
 clear hA hS
 refine wpAnyH_done (by kernel_rfl) ?_ _
 refine NoPanic.normal ?_
 (try simp only [Act.put])
 have HRk2:Hid (RowsW Wk2 [(gk2,V2,153),(gk1,V1,153),(gk0,V0,153),(W.heap.size+1,#[.int .u64 0,.int .u64 0,.int .u64 0,.int .u64 0,.int .u64 0],63),(W.heap.size,La,63)]):=yh ⟨hrowk2,HRk1.out.below hbk2⟩
 have HBk2:=yh (zaa HBk1.out hbk2)
 clear hgk2 hbk2 hrowk2
 go_upto_region 6 with fail
 refine wp_region_noPanic ?_
 refine zai 12 10 153 #[.int .u64 0,.int .u64 0] (by kernel_rfl) (by kernel_rfl) ⟨by kernel_rfl,by kernel_rfl,hzw,fun _ _ _ h=>h⟩ (fun hA hS=>?_)
 refine' yD 0 hA hS ?_
 refine' yD 1 hA hS ?_
 refine' yD 2 hA hS ?_ (hy:=by intro X hSX;have hc:X.cell? ⟨W.heap.size,3,none⟩=some (.int .u64 (a3:Int)):=by { rw [cell_of_row _ _ _ _ _ _ (HRk2.out.below hSX).tail.tail.tail.tail.head,HLa.out];rfl };go_simp;try with_reducible rfl)
 refine' yD 4 hA hS ?_
 refine' yD 5 hA hS ?_
 refine' yD 6 hA hS ?_ (hy:=by intro X hSX;have hc:X.cell? ⟨W.heap.size,2,none⟩=some (.int .u64 (a2:Int)):=by { rw [cell_of_row _ _ _ _ _ _ (HRk2.out.below hSX).tail.tail.tail.tail.head,HLa.out];rfl };go_simp;try with_reducible rfl)
 refine' yD 8 hA hS ?_
 refine' yD 9 hA hS ?_ (hy:=by intro X hSX;have hc:X.cell? ⟨W.heap.size,4,none⟩=some (.int .u64 (a4:Int)):=by { rw [cell_of_row _ _ _ _ _ _ (HRk2.out.below hSX).tail.tail.tail.tail.head,HLa.out];rfl };go_simp;try with_reducible rfl)
 refine' yD 10 hA hS ?_
 refine xE 3 hA hS (fun ok3 Wk3 hS K hK=>?_)
 go_simp
 with_reducible refine (H3_0.out Wk3).mono ?_
 rintro e uk3 ⟨rfl,hbk3⟩
 refine hK.out _ _ hbk3 (fun hS=>?_)
 clear hK K hbk3
 refine xE 7 hA hS (fun ok3 Wk3 hS K hK=>?_)
 go_simp
 with_reducible refine (H3_1.out Wk3).mono ?_
 rintro e uk3 ⟨rfl,hbk3⟩
 refine hK.out _ _ hbk3 (fun hS=>?_)
 clear hK K hbk3
 refine xE 11 hA hS (fun ok3 Wk3 hS K hK=>?_)
 go_simp
 with_reducible refine (H3_2.out Wk3).mono ?_
 rintro e uk3 ⟨rfl,hbk3⟩
 refine hK.out _ _ hbk3 (fun hS=>?_)
 clear hK K hbk3
 refine' zay 13 hA rfl (by kernel_rfl) (by kernel_rfl) (by kernel_rfl) hS (by kernel_rfl) rfl (by intro h;cases h) i3 sz3 on3 ?_ ?_
 rotate_left 1
 ·intro g;simp only [List.set_cons_succ,List.set_cons_zero];rfl
 intro gk3 Wk3 hgk3 hbk3 hrowk3
 clear hA hS
 refine wpAnyH_done (by kernel_rfl) ?_ _
 refine NoPanic.normal ?_
 (try simp only [Act.put])
 have HRk3:Hid (RowsW Wk3 [(gk3,V3,153),(gk2,V2,153),(gk1,V1,153),(gk0,V0,153),(W.heap.size+1,#[.int .u64 0,.int .u64 0,.int .u64 0,.int .u64 0,.int .u64 0],63),(W.heap.size,La,63)]):=yh ⟨hrowk3,HRk2.out.below hbk3⟩
 have HBk3:=yh (zaa HBk2.out hbk3)
 clear hgk3 hbk3 hrowk3
 go_upto_region 7 with fail
 refine wp_region_noPanic ?_
 refine zai 13 11 153 #[.int .u64 0,.int .u64 0] (by kernel_rfl) (by kernel_rfl) ⟨by kernel_rfl,by kernel_rfl,hzw,fun _ _ _ h=>h⟩ (fun hA hS=>?_)
 refine' yD 0 hA hS ?_
 refine' yD 1 hA hS ?_
 refine' yD 2 hA hS ?_ (hy:=by intro X hSX;have hc:X.cell? ⟨W.heap.size,4,none⟩=some (.int .u64 (a4:Int)):=by { rw [cell_of_row _ _ _ _ _ _ (HRk3.out.below hSX).tail.tail.tail.tail.tail.head,HLa.out];rfl };go_simp;try with_reducible rfl)
 refine' yD 4 hA hS ?_
 refine' yD 5 hA hS ?_
 refine' yD 6 hA hS ?_ (hy:=by intro X hSX;have hc:X.cell? ⟨W.heap.size,3,none⟩=some (.int .u64 (a3:Int)):=by { rw [cell_of_row _ _ _ _ _ _ (HRk3.out.below hSX).tail.tail.tail.tail.tail.head,HLa.out];rfl };go_simp;try with_reducible rfl)
 refine' yD 8 hA hS ?_
 refine' yD 9 hA hS ?_ (hy:=by intro X hSX;have hc:X.cell? ⟨W.heap.size,2,none⟩=some (.int .u64 (a2:Int)):=by { rw [cell_of_row _ _ _ _ _ _ (HRk3.out.below hSX).tail.tail.tail.tail.tail.head,HLa.out];rfl };go_simp;try with_reducible rfl)
 refine' yD 10 hA hS ?_
 refine' yD 11 hA hS ?_ (hy:=by intro X hSX;have hc:X.cell? ⟨W.heap.size,2,none⟩=some (.int .u64 (a2:Int)):=by { rw [cell_of_row _ _ _ _ _ _ (HRk3.out.below hSX).tail.tail.tail.tail.tail.head,HLa.out];rfl };go_simp;try with_reducible rfl)
 refine xE 3 hA hS (fun ok4 Wk4 hS K hK=>?_)
 go_simp
 with_reducible refine (H4_0.out Wk4).mono ?_
 rintro e uk4 ⟨rfl,hbk4⟩
 refine hK.out _ _ hbk4 (fun hS=>?_)
 clear hK K hbk4
 refine xE 7 hA hS (fun ok4 Wk4 hS K hK=>?_)
 go_simp
 with_reducible refine (H4_1.out Wk4).mono ?_
 rintro e uk4 ⟨rfl,hbk4⟩
 refine hK.out _ _ hbk4 (fun hS=>?_)
 clear hK K hbk4
 refine xE 12 hA hS (fun ok4 Wk4 hS K hK=>?_)
 go_simp
 with_reducible refine (H4_2.out Wk4).mono ?_
 rintro e uk4 ⟨rfl,hbk4⟩
 refine hK.out _ _ hbk4 (fun hS=>?_)
 clear hK K hbk4
 refine' zay 14 hA rfl (by kernel_rfl) (by kernel_rfl) (by kernel_rfl) hS (by kernel_rfl) rfl (by intro h;cases h) i4 sz4 on4 ?_ ?_
 rotate_left 1
 ·intro g;simp only [List.set_cons_succ,List.set_cons_zero];rfl
 intro gk4 Wk4 hgk4 hbk4 hrowk4
 clear hA hS
 refine wpAnyH_done (by kernel_rfl) ?_ _
 refine NoPanic.normal ?_
 (try simp only [Act.put])
 have HRk4:Hid (RowsW Wk4 [(gk4,V4,153),(gk3,V3,153),(gk2,V2,153),(gk1,V1,153),(gk0,V0,153),(W.heap.size+1,#[.int .u64 0,.int .u64 0,.int .u64 0,.int .u64 0,.int .u64 0],63),(W.heap.size,La,63)]):=yh ⟨hrowk4,HRk3.out.below hbk4⟩
 have HBk4:=yh (zaa HBk3.out hbk4)
 clear hgk4 hbk4 hrowk4
 go_upto_region 8 with fail
 have l0:=HRk4.out.tail.tail.tail.tail.head
 have l1:=HRk4.out.tail.tail.tail.head
 have l2:=HRk4.out.tail.tail.head
 have l3:=HRk4.out.tail.head
 have l4:=HRk4.out.head
 go_wp2_with (first | (refine zaj (o:=⟨some 89,_,_,_,_,_⟩) rfl (.agg V0) (zac rfl rfl l0 Tryz.underlying153 rfl i0) ?_) | (refine zaj (o:=⟨some 90,_,_,_,_,_⟩) rfl (.agg V1) (zac rfl rfl l1 Tryz.underlying153 rfl i1) ?_) | (refine zaj (o:=⟨some 91,_,_,_,_,_⟩) rfl (.agg V2) (zac rfl rfl l2 Tryz.underlying153 rfl i2) ?_) | (refine zaj (o:=⟨some 92,_,_,_,_,_⟩) rfl (.agg V3) (zac rfl rfl l3 Tryz.underlying153 rfl i3) ?_) | (refine zaj (o:=⟨some 93,_,_,_,_,_⟩) rfl (.agg V4) (zac rfl rfl l4 Tryz.underlying153 rfl i4) ?_))
 with_reducible refine (HN.out _).mono ?_
 rintro e w2 ⟨S,rfl,hR,hb2⟩
 have hr2:=(HRk4.out.below hb2).tail.tail.tail.tail.tail.head
 have iS:=feR_info hR
 have sS:=feR_size hR
 have oS:=feR_one hR
 have HP:Hid (∀ w',Below W.heap.size W w'→RetFe feR W nn (.returned (.agg S)) w'):=yh fun w' hb=>⟨S,rfl,hR,hb⟩
 have HE:Hid (Below W.heap.size W (w2.setRow (W.heap.size+1) S)):=yh (zad (zaa HBk4.out hb2) (by omega))
 clear hb2 hR
 go_wp2_with (refine yj S hr2 iS sS oS ?_)
 (try simp only [Exit.inBlock,Exit.then])
 refine bodyPost_ret (results_cell_row rfl _ _ (W.heap.size+1) _ S _ _ rfl (setRow_heap w2 _ _ _ _ _ hr2) Tryz.underlying63 rfl iS) rfl ?_
 exact HP.out _ HE.out
end Go.Proofs.YtkgodlcnoenmbaaGreat
namespace Go.Proofs.YtkgodlcnoenmbaaGreat
open Go.RowKit
set_option linter.unusedVariables false
set_option maxRecDepth 100000
theorem and1u (q:Nat) (h:q<18446744073709551616):bits .and .u64 (q:Int) 1=((q % 2:Nat):Int):=by
 have:=u64_and_nat q 1 h (by omega)
 rwa [Nat.and_one_is_mod] at this
def redA (x:Nat):Array Value:=limb5 (x % M51) (x/M51 % M51) (x/M102 % M51) (x/M153 % M51) (x/M204 % M51)
theorem redA_of {r0 r1 r2 r3 r4 x:Nat} (h0:r0<M51) (h1:r1<M51) (h2:r2<M51) (h3:r3<M51) (h4:r4<M51) (h:val5 r0 r1 r2 r3 r4=x):limb5 r0 r1 r2 r3 r4=redA x:=by
 have hx:=val5_lim h0 h1 h2 h3 h4
 rw [h] at hx
 have hv:=val5_bits x
 rw [Nat.mod_eq_of_lt hx,← h] at hv
 rw [h] at hv
 have m:=fun y:Nat=>Nat.mod_lt y (show M51 > 0 by decide)
 obtain ⟨e0,e1,e2,e3,e4⟩:=val5_inj (m _) (m _) (m _) (m _) h0 h1 h2 h3 (hv.trans h.symm)
 unfold redA
 rw [e0,e1,e2,e3,e4]
set_option maxHeartbeats 3200000 in
theorem reduced_any {c:Array Value} {x:Nat} (hx:feR c x) (W:World):Calls Tryz.prog 127 #[.agg c] W (RetV W (.agg (redA x))):=by
 obtain ⟨a0,a1,a2,a3,a4,rfl,ha0,ha1,ha2,ha3,ha4,rfl⟩:=hx
 have ja0:=ha0
 have ja1:=ha1
 have ja2:=ha2
 have ja3:=ha3
 have ja4:=ha4
 unfold L51 at ha0 ha1 ha2 ha3 ha4
 obtain ⟨k0,u0,v0,g0⟩:∃ k:Nat,(a0:Int)+19=(k:Int)∧k<4503599627370496∧k=a0+19:=⟨a0+19,by omega,by omega,rfl⟩
 obtain ⟨o1,p1,q1,g1o⟩:∃ o:Nat,(k0:Int)/2251799813685248=(o:Int)∧o<8192∧o=(a0+19)/M51:=⟨k0/2251799813685248,by omega,by omega,by rw [g0]⟩
 obtain ⟨k1,u1,v1,g1⟩:∃ k:Nat,(a1:Int)+(o1:Int)=(k:Int)∧k<4503599627370496∧k=a1+o1:=⟨a1+o1,by omega,by omega,rfl⟩
 obtain ⟨o2,p2,q2,g2o⟩:∃ o:Nat,(k1:Int)/2251799813685248=(o:Int)∧o<8192∧o=(a1+o1)/M51:=⟨k1/2251799813685248,by omega,by omega,by rw [g1]⟩
 obtain ⟨k2,u2,v2,g2⟩:∃ k:Nat,(a2:Int)+(o2:Int)=(k:Int)∧k<4503599627370496∧k=a2+o2:=⟨a2+o2,by omega,by omega,rfl⟩
 obtain ⟨o3,p3,q3,g3o⟩:∃ o:Nat,(k2:Int)/2251799813685248=(o:Int)∧o<8192∧o=(a2+o2)/M51:=⟨k2/2251799813685248,by omega,by omega,by rw [g2]⟩
 obtain ⟨k3,u3,v3,g3⟩:∃ k:Nat,(a3:Int)+(o3:Int)=(k:Int)∧k<4503599627370496∧k=a3+o3:=⟨a3+o3,by omega,by omega,rfl⟩
 obtain ⟨o4,p4,q4,g4o⟩:∃ o:Nat,(k3:Int)/2251799813685248=(o:Int)∧o<8192∧o=(a3+o3)/M51:=⟨k3/2251799813685248,by omega,by omega,by rw [g3]⟩
 obtain ⟨k4,u4,v4,g4⟩:∃ k:Nat,(a4:Int)+(o4:Int)=(k:Int)∧k<4503599627370496∧k=a4+o4:=⟨a4+o4,by omega,by omega,rfl⟩
 obtain ⟨o5,p5,q5,g5o⟩:∃ o:Nat,(k4:Int)/2251799813685248=(o:Int)∧o<8192∧o=(a4+o4)/M51:=⟨k4/2251799813685248,by omega,by omega,by rw [g4]⟩
 obtain ⟨m0,um,vm,gm⟩:∃ k:Nat,19*(o5:Int)=(k:Int)∧k<155649∧k=19*o5:=⟨19*o5,by omega,by omega,rfl⟩
 obtain ⟨l0,x0,y0,z0⟩:∃ k:Nat,(a0:Int)+(m0:Int)=(k:Int)∧k<4503599627370496∧k=a0+19*o5:=⟨a0+m0,by omega,by omega,by rw [gm]⟩
 obtain ⟨t0,s0,i0,j0⟩:∃ o:Nat,(l0:Int)/2251799813685248=(o:Int)∧o<8192∧o=l0/M51:=⟨l0/2251799813685248,by omega,by omega,rfl⟩
 obtain ⟨l1,x1,y1,z1⟩:∃ k:Nat,(a1:Int)+(t0:Int)=(k:Int)∧k<4503599627370496∧k=a1+l0/M51:=⟨a1+t0,by omega,by omega,by rw [j0]⟩
 obtain ⟨t1,s1,i1,j1⟩:∃ o:Nat,(l1:Int)/2251799813685248=(o:Int)∧o<8192∧o=l1/M51:=⟨l1/2251799813685248,by omega,by omega,rfl⟩
 obtain ⟨l2,x2,y2,z2⟩:∃ k:Nat,(a2:Int)+(t1:Int)=(k:Int)∧k<4503599627370496∧k=a2+l1/M51:=⟨a2+t1,by omega,by omega,by rw [j1]⟩
 obtain ⟨t2,s2,i2,j2⟩:∃ o:Nat,(l2:Int)/2251799813685248=(o:Int)∧o<8192∧o=l2/M51:=⟨l2/2251799813685248,by omega,by omega,rfl⟩
 obtain ⟨l3,x3,y3,z3⟩:∃ k:Nat,(a3:Int)+(t2:Int)=(k:Int)∧k<4503599627370496∧k=a3+l2/M51:=⟨a3+t2,by omega,by omega,by rw [j2]⟩
 obtain ⟨t3,s3,i3,j3⟩:∃ o:Nat,(l3:Int)/2251799813685248=(o:Int)∧o<8192∧o=l3/M51:=⟨l3/2251799813685248,by omega,by omega,rfl⟩
 obtain ⟨l4,x4,y4,z4⟩:∃ k:Nat,(a4:Int)+(t3:Int)=(k:Int)∧k<4503599627370496∧k=a4+l3/M51:=⟨a4+t3,by omega,by omega,by rw [j3]⟩
 have w0:=and51 l0 (by omega)
 have w1:=and51 l1 (by omega)
 have w2:=and51 l2 (by omega)
 have w3:=and51 l3 (by omega)
 have w4:=and51 l4 (by omega)
 have hv:=reduced_val ja0 ja1 ja2 ja3 ja4 g1o g2o g3o g4o g5o z0 z1 z2 z3 z4
 have hm:=fun y:Nat=>Nat.mod_lt y (show M51 > 0 by decide)
 have hA:=redA_of (hm l0) (hm l1) (hm l2) (hm l3) (hm l4) hv
 rw [← hA]
 unfold limb5
 have n0:=hm l0
 generalize l0 % M51=r0 at *
 have n1:=hm l1
 generalize l1 % M51=r1 at *
 have n2:=hm l2
 generalize l2 % M51=r2 at *
 have n3:=hm l3
 generalize l3 % M51=r3 at *
 have n4:=hm l4
 generalize l4 % M51=r4 at *
 clear hA hv hm ja0 ja1 ja2 ja3 ja4 gm g0 g1 g2 g3 g4 g1o g2o g3o g4o g5o z0 z1 z2 z3 z4 j0 j1 j2 j3
 have W0':Hid (bits .and .u64 (l0:Int) 2251799813685247=(r0:Int)):=yh w0
 clear w0 n0
 have W1':Hid (bits .and .u64 (l1:Int) 2251799813685247=(r1:Int)):=yh w1
 clear w1 n1
 have W2':Hid (bits .and .u64 (l2:Int) 2251799813685247=(r2:Int)):=yh w2
 clear w2 n2
 have W3':Hid (bits .and .u64 (l3:Int) 2251799813685247=(r3:Int)):=yh w3
 clear w3 n3
 have W4':Hid (bits .and .u64 (l4:Int) 2251799813685247=(r4:Int)):=yh w4
 clear w4 n4
 have Hu0:=yh u0
 clear u0
 have Hv0:=yh v0
 clear v0
 have Hp1:=yh p1
 clear p1
 have Hq1:=yh q1
 clear q1
 have Hu1:=yh u1
 clear u1
 have Hv1:=yh v1
 clear v1
 have Hp2:=yh p2
 clear p2
 have Hq2:=yh q2
 clear q2
 have Hu2:=yh u2
 clear u2
 have Hv2:=yh v2
 clear v2
 have Hp3:=yh p3
 clear p3
 have Hq3:=yh q3
 clear q3
 have Hu3:=yh u3
 clear u3
 have Hv3:=yh v3
 clear v3
 have Hp4:=yh p4
 clear p4
 have Hq4:=yh q4
 clear q4
 have Hu4:=yh u4
 clear u4
 have Hv4:=yh v4
 clear v4
 have Hp5:=yh p5
 clear p5
 have Hq5:=yh q5
 clear q5
 have Hum:=yh um
 clear um
 have Hvm:=yh vm
 clear vm
 have Hx0:=yh x0
 clear x0
 have Hy0:=yh y0
 clear y0
 have Hs0:=yh s0
 clear s0
 have Hi0:=yh i0
 clear i0
 have Hx1:=yh x1
 clear x1
 have Hy1:=yh y1
 clear y1
 have Hs1:=yh s1
 clear s1
 have Hi1:=yh i1
 clear i1
 have Hx2:=yh x2
 clear x2
 have Hy2:=yh y2
 clear y2
 have Hs2:=yh s2
 clear s2
 have Hi2:=yh i2
 clear i2
 have Hx3:=yh x3
 clear x3
 have Hy3:=yh y3
 clear y3
 have Hs3:=yh s3
 clear s3
 have Hi3:=yh i3
 clear i3
 have Hx4:=yh x4
 clear x4
 have Hy4:=yh y4
 clear y4
 have Hha0:=yh ha0
 clear ha0
 have Hha1:=yh ha1
 clear ha1
 have Hha2:=yh ha2
 clear ha2
 have Hha3:=yh ha3
 clear ha3
 have Hha4:=yh ha4
 clear ha4
 go_enter Tryz.func127,Tryz.ntmps127
 go_upto_region 1 with fail
 have u0:=Hu0.out
 have v0:=Hv0.out
 have p1:=Hp1.out
 have q1:=Hq1.out
 have ha0:=Hha0.out
 go_upto_region 2 with fail
 clear u0 v0 p1 q1 ha0
 have u1:=Hu1.out
 have v1:=Hv1.out
 have p2:=Hp2.out
 have q2:=Hq2.out
 have ha1:=Hha1.out
 have q1:=Hq1.out
 go_upto_region 3 with fail
 clear u1 v1 p2 q2 ha1 q1
 have u2:=Hu2.out
 have v2:=Hv2.out
 have p3:=Hp3.out
 have q3:=Hq3.out
 have ha2:=Hha2.out
 have q2:=Hq2.out
 go_upto_region 4 with fail
 clear u2 v2 p3 q3 ha2 q2
 have u3:=Hu3.out
 have v3:=Hv3.out
 have p4:=Hp4.out
 have q4:=Hq4.out
 have ha3:=Hha3.out
 have q3:=Hq3.out
 go_upto_region 5 with fail
 clear u3 v3 p4 q4 ha3 q3
 have u4:=Hu4.out
 have v4:=Hv4.out
 have p5:=Hp5.out
 have q5:=Hq5.out
 have ha4:=Hha4.out
 have q4:=Hq4.out
 go_upto_region 6 with fail
 clear u4 v4 p5 q5 ha4 q4
 have um:=Hum.out
 have vm:=Hvm.out
 have x0:=Hx0.out
 have y0:=Hy0.out
 have q5:=Hq5.out
 have ha0:=Hha0.out
 go_upto_region 7 with fail
 clear um vm x0 y0 q5 ha0
 have s0:=Hs0.out
 have i0:=Hi0.out
 have x1:=Hx1.out
 have y1:=Hy1.out
 have ha1:=Hha1.out
 go_upto_region 8 with fail
 clear s0 i0 x1 y1 ha1
 have s1:=Hs1.out
 have i1:=Hi1.out
 have x2:=Hx2.out
 have y2:=Hy2.out
 have ha2:=Hha2.out
 go_upto_region 9 with fail
 clear s1 i1 x2 y2 ha2
 have s2:=Hs2.out
 have i2:=Hi2.out
 have x3:=Hx3.out
 have y3:=Hy3.out
 have ha3:=Hha3.out
 go_upto_region 10 with fail
 clear s2 i2 x3 y3 ha3
 have s3:=Hs3.out
 have i3:=Hi3.out
 have x4:=Hx4.out
 have y4:=Hy4.out
 have ha4:=Hha4.out
 go_upto_region 11 with fail
 clear s3 i3 x4 y4 ha4
 have w0:=W0'.out
 have w1:=W1'.out
 have w2:=W2'.out
 have w3:=W3'.out
 have w4:=W4'.out
 go_wp2
 refine bodyPost_ret (v:=.agg #[.int .u64 (r0:Int),.int .u64 (r1:Int),.int .u64 (r2:Int),.int .u64 (r3:Int),.int .u64 (r4:Int)]) (by simp [results,Tryz.results127,go_sem]) rfl ⟨rfl,?_⟩
 exact ((Below.refl _ _).alloc (Nat.le_refl _) _).alloc (by simp) _
theorem eqL5 (a b c d e a' b' c' d' e':Nat) (u:World):(binOp .eql 63 (.agg (limb5 a b c d e)) (.agg (limb5 a' b' c' d' e'))).run Tryz.prog u=.ok (.bool (decide (a=a'∧b=b'∧c=c'∧d=d'∧e=e'))) u:=by
 rw [run_eql_struct,run_equalIn_struct _ 9999 _ _ _ (by kernel_rfl) (by kernel_rfl)]
 unfold limb5
 go_simp
 by_cases h0:a=a' <;> by_cases h1:b=b' <;> by_cases h2:c=c' <;> by_cases h3:d=d' <;> by_cases h4:e=e' <;> simp [h0,h1,h2,h3,h4,Int.natCast_inj]
theorem eqRed {x y:Nat} (hx:x<PP) (hy:y<PP) (u:World):(binOp .eql 63 (.agg (redA x)) (.agg (redA y))).run Tryz.prog u=.ok (.bool (decide (x=y))) u:=by
 unfold redA
 rw [eqL5]
 have e:(x % M51=y % M51∧x/M51 % M51=y/M51 % M51∧x/M102 % M51=y/M102 % M51∧x/M153 % M51=y/M153 % M51∧x/M204 % M51=y/M204 % M51)↔x=y:=by
  constructor
  ·rintro ⟨h0,h1,h2,h3,h4⟩
   have a:=val5_bits x
   have b:=val5_bits y
   rw [h0,h1,h2,h3,h4,b] at a
   rw [Nat.mod_eq_of_lt (show x<TT by unfold PP at hx;unfold TT;omega),Nat.mod_eq_of_lt (show y<TT by unfold PP at hy;unfold TT;omega)] at a
   exact a.symm
  ·intro h;subst h;exact ⟨rfl,rfl,rfl,rfl,rfl⟩
 rw [decide_eq_decide.2 e]
theorem fieldT (r0 r1 r2 r3 r4:Nat) (u:World):(Instr.field 63 (.agg #[.int .u64 (r0:Int),.int .u64 (r1:Int),.int .u64 (r2:Int),.int .u64 (r3:Int),.int .u64 (r4:Int)]) 0).run Tryz.prog u=.ok (.int .u64 (r0:Int)) u:=by kernel_rfl
theorem guardFe:Tryz.prog.eqGuardType Tryz.prog.depth 63=false:=by kernel_rfl
set_option maxHeartbeats 1600000 in
theorem feequal_any {c d:Array Value} {x y:Nat} (hx:feR c x) (hy:feR d y) (W:World):Calls Tryz.prog 124 #[.agg c,.agg d] W (RetV W (.bool (decide (x=y)))):=by
 have HX:Hid (∀ W':World,Calls Tryz.prog 127 #[.agg c] W' (RetV W' (.agg (redA x)))):=yh fun W'=>reduced_any hx W'
 have HY:Hid (∀ W':World,Calls Tryz.prog 127 #[.agg d] W' (RetV W' (.agg (redA y)))):=yh fun W'=>reduced_any hy W'
 have hxl:x<PP:=by obtain ⟨_,_,_,_,_,-,-,-,-,-,-,rfl⟩:=hx;exact Nat.mod_lt _ (by decide)
 have hyl:y<PP:=by obtain ⟨_,_,_,_,_,-,-,-,-,-,-,rfl⟩:=hy;exact Nat.mod_lt _ (by decide)
 have HE:Hid (∀ u:World,(binOp .eql 63 (.agg (redA x)) (.agg (redA y))).run Tryz.prog u=.ok (.bool (decide (x=y))) u):=yh fun u=>eqRed hxl hyl u
 have ic:=feR_info hx
 have id:=feR_info hy
 generalize decide (x=y)=b at *
 generalize redA x=X at *
 generalize redA y=Y at *
 clear hx hy hxl hyl
 have hrr:RowsW ((W.alloc (.cells c 63)).alloc (.cells d 63)) [(W.heap.size+1,d,63),(W.heap.size,c,63)]:=by have h:=(RowsW.box (RowsW.box (RowsW.nil W) c 63) d 63);simp only [World.size_alloc] at h;exact h
 obtain ⟨W1,hW1⟩:∃ W1,((W.alloc (.cells c 63)).alloc (.cells d 63))=W1:=⟨_,rfl⟩
 rw [hW1] at hrr
 have hb1:Below W.heap.size W W1:=by rw [← hW1];exact zab (zab (Below.refl _ _) _) _
 have HR:=yh hrr
 have HB1:=yh hb1
 have HW1:=yh hW1
 clear hrr hb1 hW1
 go_enter Tryz.func124,Tryz.ntmps124
 go_upto_region 1 with fail
 rw [HW1.out]
 refine wp_region_noPanic ?_
 refine wp_region_held_drew (S:=fun W=>Below W1.heap.size W1 W) (by kernel_rfl) (by exact (Below.refl _ _).drew) (fun hS=>?_)
 refine' yk 0  hS ?_ (hy:=fun W hSW=>zac rfl rfl (HR.out.below hSW).tail.head Tryz.underlying63 rfl ic)
 refine' yk 2  hS ?_ (hy:=fun W hSW=>zac rfl rfl (HR.out.below hSW).head Tryz.underlying63 rfl id)
 refine xk 1  (fun K hK=>?_)
 go_simp
 with_reducible refine (HX.out _).mono ?_
 rintro e u1 ⟨rfl,hb1⟩
 have kb1:=zaa hS hb1
 clear hS hb1
 refine hK.out _ _ (by exact kb1) (fun hS=>?_)
 clear hK K
 refine xk 3  (fun K hK=>?_)
 go_simp
 with_reducible refine (HY.out _).mono ?_
 rintro e u2 ⟨rfl,hb2⟩
 have kb2:=zaa hS hb2
 clear hS hb2
 refine hK.out _ _ (by exact kb2) (fun hS=>?_)
 clear hK K
 refine' yk 4  hS ?_ (hy:=fun W hSW=>run_eql2 rfl rfl rfl guardFe (HE.out W))
 refine' yk 5  hS ?_
 refine wpAnyH_done (by kernel_rfl) ?_ _
 refine NoPanic.normal ?_
 clear hS
 (try simp only [Act.put])
 have HB2:=yh (zaa HB1.out kb2)
 clear kb1 kb2
 go_wp2_with fail
 go_ret
 exact ⟨rfl,HB2.out⟩
set_option maxHeartbeats 1600000 in
theorem feiszero_any {c:Array Value} {x:Nat} (hx:feR c x) (W:World):Calls Tryz.prog 85 #[.agg c] W (RetV W (.bool (decide (x=0)))):=by
 have HX:Hid (∀ W':World,Calls Tryz.prog 127 #[.agg c] W' (RetV W' (.agg (redA x)))):=yh fun W'=>reduced_any hx W'
 have hxl:x<PP:=by obtain ⟨_,_,_,_,_,-,-,-,-,-,-,rfl⟩:=hx;exact Nat.mod_lt _ (by decide)
 have HE:Hid (∀ u:World,(binOp .eql 63 (.agg (redA x)) (.agg (#[.int .u64 0,.int .u64 0,.int .u64 0,.int .u64 0,.int .u64 0]))).run Tryz.prog u=.ok (.bool (decide (x=0))) u):=yh fun u=>by
  have h:=eqRed hxl (show 0<PP by decide) u
  exact h
 have ic:=feR_info hx
 have hrc:(W.alloc (.cells c 63)).heap[W.heap.size]?=some (.cells c 63 (0,0)):=heap_alloc_new _ _
 have HB:Hid (Below W.heap.size W (W.alloc (.cells c 63))):=yh (zab (Below.refl _ _) _)
 generalize decide (x=0)=b at *
 generalize redA x=X at *
 clear hx hxl
 go_enter Tryz.func85,Tryz.ntmps85
 go_wp2_with (refine yi hrc Tryz.underlying63 ic ?_)
 with_reducible refine (HX.out _).mono ?_
 rintro e w2 ⟨rfl,hb2⟩
 have HB2:=yh (zaa HB.out hb2)
 clear hb2
 go_wp2_with (refine zaj (o:=⟨some 6,_,_,_,_,_⟩) rfl (.bool b) (run_eql2 rfl rfl rfl guardFe (HE.out _)) ?_)
 go_ret
 exact ⟨rfl,HB2.out⟩
set_option maxHeartbeats 1600000 in
theorem feodd_any {c:Array Value} {x:Nat} (hx:feR c x) (W:World):Calls Tryz.prog 95 #[.agg c] W (RetV W (.bool (decide (x % 2=1)))):=by
 have HX:Hid (∀ W':World,Calls Tryz.prog 127 #[.agg c] W' (RetV W' (.agg (redA x)))):=yh fun W'=>reduced_any hx W'
 have ic:=feR_info hx
 have hrc:(W.alloc (.cells c 63)).heap[W.heap.size]?=some (.cells c 63 (0,0)):=heap_alloc_new _ _
 have HB:Hid (Below W.heap.size W (W.alloc (.cells c 63))):=yh (zab (Below.refl _ _) _)
 have h1:=and1u (x % M51) (by unfold M51;omega)
 rw [show x % M51 % 2=x % 2 by unfold M51;omega] at h1
 have h2:decide (x % 2=1)=(((x % 2:Nat):Int) == 1):=by
  have:x % 2<2:=Nat.mod_lt _ (by omega)
  generalize x % 2=r at *
  have:r=0∨r=1:=by omega
  rcases this with rfl | rfl <;> rfl
 rw [h2]
 unfold redA limb5 at HX
 generalize x % 2=r at *
 generalize x % M51=r0 at *
 generalize x/M51 % M51=r1 at *
 generalize x/M102 % M51=r2 at *
 generalize x/M153 % M51=r3 at *
 generalize x/M204 % M51=r4 at *
 clear hx h2
 have hf:=fun u:World=>fieldT r0 r1 r2 r3 r4 u
 go_enter Tryz.func95,Tryz.ntmps95
 go_wp2_with (refine yi hrc Tryz.underlying63 ic ?_)
 with_reducible refine (HX.out _).mono ?_
 rintro e w2 ⟨rfl,hb2⟩
 have HB2:=yh (zaa HB.out hb2)
 clear hb2
 go_wp2_with fail
 go_ret
 exact ⟨rfl,HB2.out⟩
end Go.Proofs.YtkgodlcnoenmbaaGreat
namespace Go.Proofs.YtkgodlcnoenmbaaGreat
open Go.RowKit
set_option linter.unusedVariables false
set_option maxRecDepth 100000
set_option maxHeartbeats 3200000 in
theorem fefrom_any (l:List UInt8) (hl:l.length=32) (w:World):Calls Tryz.prog 77 #[.agg (arrB l)] w (RetFe feR w (feN l)):=by
 have hz4:=fun u=>zero_arr 75 #[.int .u64 0,.int .u64 0,.int .u64 0,.int .u64 0] 4 (by kernel_rfl) u
 have HX:Hid (∀ k:Nat,k<32→∀ u,(Instr.index 22 (.agg (arrB l)) (.int .i64 (k:Int))).run Tryz.prog u=.ok (.int .u8 ((l.getD k 0).toNat:Int)) u):=yh fun k hk u=>arr_at hl k hk u
 have iB:=zaf hl
 have HL:=yh hl
 obtain ⟨BB,hBB⟩:∃ X,arrB l=X:=⟨_,rfl⟩
 rw [hBB] at HX iB ⊢
 have hI:Tri 22 63 75 w (((w.alloc (.cells BB 22)).alloc (.cells #[.int .u64 0,.int .u64 0,.int .u64 0,.int .u64 0,.int .u64 0] 63)).alloc (.cells #[.int .u64 0,.int .u64 0,.int .u64 0,.int .u64 0] 75)) w.heap.size BB #[.int .u64 0,.int .u64 0,.int .u64 0,.int .u64 0,.int .u64 0] (wdA (leN (l.take 0))):=by
  refine ⟨?_,?_,?_,((((Below.refl w.heap.size w).alloc (Nat.le_refl _) _).alloc (by simp) _).alloc (by simp;omega) _)⟩
  ·rw [heap_alloc_old _ _ (by rw [World.size_alloc,World.size_alloc];omega)];exact heap_alloc2_old _ _ _
  ·rw [heap_alloc_old _ _ (by rw [World.size_alloc,World.size_alloc];omega)];exact heap_alloc2_new _ _ _
  ·have h:=tri_new w BB #[.int .u64 0,.int .u64 0,.int .u64 0,.int .u64 0,.int .u64 0] #[.int .u64 0,.int .u64 0,.int .u64 0,.int .u64 0] 22 63 75
   rw [show wdA (leN (l.take 0))=#[.int .u64 0,.int .u64 0,.int .u64 0,.int .u64 0] by rw [List.take_zero];exact wdA_zero]
   exact h
 have hrb:(((w.alloc (.cells BB 22)).alloc (.cells #[.int .u64 0,.int .u64 0,.int .u64 0,.int .u64 0,.int .u64 0] 63)).alloc (.cells #[.int .u64 0,.int .u64 0,.int .u64 0,.int .u64 0] 75)).heap[w.heap.size]?=some (.cells BB 22 (0,0)):=hI.x
 have HI:=yh hI
 clear hI hBB hl
 go_enter Tryz.func77,Tryz.ntmps77
 go_wp2_with (refine yi hrb Tryz.underlying22 iB ?_)
 obtain ⟨W1,hW1⟩:∃ W,((w.alloc (.cells BB 22)).alloc (.cells #[.int .u64 0,.int .u64 0,.int .u64 0,.int .u64 0,.int .u64 0] 63)).alloc (.cells #[.int .u64 0,.int .u64 0,.int .u64 0,.int .u64 0] 75)=W:=⟨_,rfl⟩
 obtain ⟨g,hg⟩:∃ g,w.heap.size=g:=⟨_,rfl⟩
 rw [hg,hW1] at HI
 rw [hg,hW1]
 have HG:=yh hg
 clear hW1 hg hrb
 go_loopw [7] (fun i wr=>∃ k:Nat,k≤32∧i=.int .i64 (k:Int)∧Hid (Tri 22 63 75 w wr g BB #[.int .u64 0,.int .u64 0,.int .u64 0,.int .u64 0,.int .u64 0] (wdA (leN (l.take k))))) (fun i _=>32-(intOf i).toNat)
 case atStart=>exact ⟨0,by omega,rfl,HI⟩
 case round =>
  clear HI
  obtain ⟨k,hk,rfl,HI⟩:=hrel
  by_cases hlt:k<32
  ·have hx:=HX.out k hlt
   obtain ⟨b,hb⟩:∃ b,(l.getD k 0).toNat=b:=⟨_,rfl⟩
   have hbl:b<256:=by rw [← hb];exact (l.getD k 0).toNat_lt
   obtain ⟨n,hn⟩:∃ n,leN (l.take k)=n:=⟨_,rfl⟩
   have hnl:n<256^k:=by rw [← hn];exact leN_take_lt l k (by rw [HL.out];omega)
   have hn1:leN (l.take (k+1))=n+b*256^k:=by rw [leN_take l k (by rw [HL.out];omega),hn,hb]
   obtain ⟨s1,s2,s3,s4⟩:=word_step n b k hlt hnl hbl
   have hd4:k/8<4:=by omega
   rw [hn] at HI
   rw [hb] at hx
   obtain ⟨d,hd⟩:∃ d,k/8=d:=⟨_,rfl⟩
   obtain ⟨r,hr⟩:∃ r,k % 8=r:=⟨_,rfl⟩
   obtain ⟨e,he⟩:∃ e,r*8=e:=⟨_,rfl⟩
   rw [hd,hr,he] at s1 s3
   rw [hr,he] at s2
   rw [hd] at s4
   rw [hd] at hd4
   have hel:e<57:=by omega
   have hs4:=wdA_set n (n+b*256^k) d hd4 (fun j hj hne=>s4 j hj hne)
   rw [s3] at hs4
   have cz:wr.cell? ⟨g+1+1,d,none⟩=some (.int .u64 (wq n d:Int)):=by rw [cell_of_row _ _ _ _ _ _ HI.out.z,wdA_get _ _ hd4]
   have fx:=HI.out.fz d
   have hw:=wq_lt n d
   have f7:=or_low (wq n d) b e s1 hw s2
   have HI2:Hid (Tri 22 63 75 w (wr.drew.setCell ⟨g+1+1,d,none⟩ (.int .u64 ((wq n d+2^e*b:Nat):Int))) g BB #[.int .u64 0,.int .u64 0,.int .u64 0,.int .u64 0,.int .u64 0] (wdA (leN (l.take (k+1))))):=yh (by
    rw [hn1,← hs4]
    exact (HI.out.drew).set d _)
   have f6:IntKind.u64.wrap ((b:Int)*2^e)=((2^e*b:Nat):Int):=by
    rw [IntKind.wrap_u64,show (b:Int)*2^e=((2^e*b:Nat):Int) by rw [Int.natCast_mul,Int.mul_comm];simp]
    unfold Q64 at s2
    omega
   generalize 2^e*b=m at *
   obtain ⟨o,ho⟩:∃ o,wq n d+m=o:=⟨_,rfl⟩
   rw [ho] at f7 HI2
   generalize wq n d=q at *
   have f1:(k:Int).tdiv 8=(d:Int):=by rw [Int.tdiv_eq_ediv_of_nonneg (by omega)];omega
   have f1':(k:Int)/8=(d:Int):=by omega
   have f2:IntKind.i64.wrap (d:Int)=(d:Int):=by rw [IntKind.wrap_i64];omega
   have f3:(k:Int).tmod 8=(r:Int):=by rw [Int.tmod_eq_emod_of_nonneg (by omega)];omega
   have f3':(k:Int) % 8=(r:Int):=by omega
   have f4:(r:Int)*8=(e:Int):=by omega
   have f5:IntKind.i64.wrap (e:Int)=(e:Int):=by rw [IntKind.wrap_i64];omega
   have f8:IntKind.u64.wrap (b:Int)=(b:Int):=by rw [IntKind.wrap_u64];omega
   have b1:0≤(d:Int):=by omega
   have b2:(d:Int)<4:=by omega
   have b3:0≤(e:Int):=by omega
   have b5:0≤(k:Int):=by omega
   have b6:(k:Int)<32:=by omega
   clear HI hb hbl hn hnl hn1 s1 s2 s3 s4 hd hr he hs4 hw ho
   go_wp2_with fail
   refine wp_region_still_tail 11 (by kernel_rfl) (by kernel_rfl) ?_
   simp only [List.take_succ_cons,List.take_zero,List.drop_succ_cons,List.drop_zero]
   iterate 11 still_step
   refine wpStill_nil ?_
   go_wp2_with fail
   go_roundw
   case rel=>exact ⟨k+1,by omega,by go_num,HI2⟩
   case measure=>simp [intOf];omega
  ·obtain rfl:k=32:=by omega
   have hV:l.take 32=l:=List.take_of_length_le (by rw [HL.out];omega)
   rw [hV] at HI
   have hVl:leN l<256^32:=by have:=leN_lt l;rwa [HL.out] at this
   have hbits:val5 (leN l % M51) (leN l/M51 % M51) (leN l/M102 % M51) (leN l/M153 % M51) (leN l/M204 % M51) % PP=feN l:=by rw [val5_bits];rfl
   generalize leN l=V at *
   obtain ⟨t0,t1,t2,t3,t4⟩:=from_limbs V hVl
   have c0:wr.cell? ⟨g+1+1,0,none⟩=some (.int .u64 (wq V 0:Int)):=by rw [cell_of_row _ _ _ _ _ _ HI.out.z];rfl
   have c1:wr.cell? ⟨g+1+1,1,none⟩=some (.int .u64 (wq V 1:Int)):=by rw [cell_of_row _ _ _ _ _ _ HI.out.z];rfl
   have c2:wr.cell? ⟨g+1+1,2,none⟩=some (.int .u64 (wq V 2:Int)):=by rw [cell_of_row _ _ _ _ _ _ HI.out.z];rfl
   have c3:wr.cell? ⟨g+1+1,3,none⟩=some (.int .u64 (wq V 3:Int)):=by rw [cell_of_row _ _ _ _ _ _ HI.out.z];rfl
   have w0:=wq_lt V 0
   have w1:=wq_lt V 1
   have w2:=wq_lt V 2
   have w3:=wq_lt V 3
   have hm:=fun y:Nat=>Nat.mod_lt y (show M51 > 0 by decide)
   have hR:feR (limb5 (V % M51) (V/M51 % M51) (V/M102 % M51) (V/M153 % M51) (V/M204 % M51)) (feN l):=⟨_,_,_,_,_,rfl,by have:=hm V;unfold L51;unfold M51 at *;omega,by have:=hm (V/M51);unfold L51;unfold M51 at *;omega,by have:=hm (V/M102);unfold L51;unfold M51 at *;omega,by have:=hm (V/M153);unfold L51;unfold M51 at *;omega,by have:=hm (V/M204);unfold L51;unfold M51 at *;omega,hbits⟩
   rw [← t0,← t1,← t2,← t3,← t4] at hR
   unfold Q64 at w0 w1 w2 w3
   unfold M51 at hR
   have HP:Hid (∀ c w',c=#[.int .u64 ((wq V 0 % 2251799813685248:Nat):Int),.int .u64 (((wq V 0/2251799813685248+2^13*(wq V 1 % 2251799813685248)) % 2251799813685248:Nat):Int),.int .u64 (((wq V 1/274877906944+2^26*(wq V 2 % 274877906944)) % 2251799813685248:Nat):Int),.int .u64 (((wq V 2/33554432+2^39*(wq V 3 % 33554432)) % 2251799813685248:Nat):Int),.int .u64 ((wq V 3/4096 % 2251799813685248:Nat):Int)] →
     Below w.heap.size w w'→RetFe feR w (feN l) (.returned (.agg c)) w'):=yh fun c w' e hb=>⟨c,rfl,by rw [e];exact hR,hb⟩
   clear hR t0 t1 t2 t3 t4 hm hbits hVl hV
   generalize wq V 0=p0 at *
   generalize wq V 1=p1 at *
   generalize wq V 2=p2 at *
   generalize wq V 3=p3 at *
   have e1:=or_low (p0/2251799813685248) (p1 % 2251799813685248) 13 (by omega) (by omega) (by omega)
   have e2:=or_low (p1/274877906944) (p2 % 274877906944) 26 (by omega) (by omega) (by omega)
   have e3:=or_low (p2/33554432) (p3 % 33554432) 39 (by omega) (by omega) (by omega)
   have d1:(p0:Int)/2251799813685248=((p0/2251799813685248:Nat):Int):=by omega
   have d2:(p1:Int)/274877906944=((p1/274877906944:Nat):Int):=by omega
   have d3:(p2:Int)/33554432=((p2/33554432:Nat):Int):=by omega
   have d4:(p3:Int)/4096=((p3/4096:Nat):Int):=by omega
   have m1:IntKind.u64.wrap ((p1:Int)*8192)=((2^13*(p1 % 2251799813685248):Nat):Int):=by rw [IntKind.wrap_u64];omega
   have m2:IntKind.u64.wrap ((p2:Int)*67108864)=((2^26*(p2 % 274877906944):Nat):Int):=by rw [IntKind.wrap_u64];omega
   have m3:IntKind.u64.wrap ((p3:Int)*549755813888)=((2^39*(p3 % 33554432):Nat):Int):=by rw [IntKind.wrap_u64];omega
   have k1:p0/2251799813685248+2^13*(p1 % 2251799813685248)<18446744073709551616:=by omega
   have k2:p1/274877906944+2^26*(p2 % 274877906944)<18446744073709551616:=by omega
   have k3:p2/33554432+2^39*(p3 % 33554432)<18446744073709551616:=by omega
   have k4:p3/4096<18446744073709551616:=by omega
   have a0:=and51 p0 w0
   have a1:=and51 _ k1
   have a2:=and51 _ k2
   have a3:=and51 _ k3
   have a4:=and51 _ k4
   generalize (p0/2251799813685248+2^13*(p1 % 2251799813685248))=j1 at *
   generalize (p1/274877906944+2^26*(p2 % 274877906944))=j2 at *
   generalize (p2/33554432+2^39*(p3 % 33554432))=j3 at *
   generalize 2^13*(p1 % 2251799813685248)=s1 at *
   generalize 2^26*(p2 % 274877906944)=s2 at *
   generalize 2^39*(p3 % 33554432)=s3 at *
   generalize p0/2251799813685248=h1 at *
   generalize p1/274877906944=h2 at *
   generalize p2/33554432=h3 at *
   generalize p3/4096=h4 at *
   generalize p0 % 2251799813685248=r0 at *
   generalize j1 % 2251799813685248=r1 at *
   generalize j2 % 2251799813685248=r2 at *
   generalize j3 % 2251799813685248=r3 at *
   generalize h4 % 2251799813685248=r4 at *
   have hr:=HI.out.y
   have HB:Hid (Below w.heap.size w wr):=yh (by rw [HG.out];exact HI.out.below)
   have sS:(#[.int .u64 0,.int .u64 0,.int .u64 0,.int .u64 0,.int .u64 0]:Array Value).size=(#[.int .u64 (r0:Int),.int .u64 (r1:Int),.int .u64 (r2:Int),.int .u64 (r3:Int),.int .u64 (r4:Int)]:Array Value).size:=rfl
   have iS:(Tryz.prog.info? 63).map (·.size)=some (#[.int .u64 (r0:Int),.int .u64 (r1:Int),.int .u64 (r2:Int),.int .u64 (r3:Int),.int .u64 (r4:Int)]:Array Value).size:=by kernel_rfl
   have oS:(#[.int .u64 (r0:Int),.int .u64 (r1:Int),.int .u64 (r2:Int),.int .u64 (r3:Int),.int .u64 (r4:Int)]:Array Value).all (·.oneCell')=true:=by simp [Value.oneCell']
   have HE:Hid (Below w.heap.size w (wr.setRow (g+1) #[.int .u64 (r0:Int),.int .u64 (r1:Int),.int .u64 (r2:Int),.int .u64 (r3:Int),.int .u64 (r4:Int)])):=yh (zad HB.out (by have:=HG.out;omega))
   clear w0 w1 w2 w3 k1 k2 k3 k4 HI HX HB
   go_wp2_with (refine yj #[.int .u64 (r0:Int),.int .u64 (r1:Int),.int .u64 (r2:Int),.int .u64 (r3:Int),.int .u64 (r4:Int)] hr iS sS oS ?_)
   (try simp only [Exit.inBlock,Exit.then])
   refine bodyPost_ret (results_cell_row rfl _ _ (g+1) _ #[.int .u64 (r0:Int),.int .u64 (r1:Int),.int .u64 (r2:Int),.int .u64 (r3:Int),.int .u64 (r4:Int)] _ _ rfl (setRow_heap _ _ _ _ _ _ hr) Tryz.underlying63 rfl iS) rfl ?_
   exact HP.out _ _ rfl HE.out
end Go.Proofs.YtkgodlcnoenmbaaGreat
namespace Go.Proofs.YtkgodlcnoenmbaaGreat
open Go.RowKit
set_option linter.unusedVariables false
set_option maxRecDepth 100000
structure Fiv (t0 t1 t2 t3 t4:TypeId) (w wr:World) (g g2:Nat) (A B C D E:Array Value):Prop where
 b:wr.heap[g+1]?=some (.cells B t1 (0,0))
 d:wr.heap[g2]?=some (.cells D t3 (0,0))
 e:wr.heap[g2+1]?=some (.cells E t4 (0,0))
 gap:g+1<g2
 below:Below g w wr
theorem Fiv.set {t0 t1 t2 t3 t4:TypeId} {w wr:World} {g g2:Nat} {A B C D E:Array Value} (h:Fiv t0 t1 t2 t3 t4 w wr g g2 A B C D E) (k:Nat) (v:Value):Fiv t0 t1 t2 t3 t4 w (wr.setCell ⟨g2+1,k,none⟩ v) g g2 A B C D (E.setIfInBounds k v):=by
 have e:=setCell_eq_setRow wr (g2+1) k _ _ _ v h.e
 have hg:=h.gap
 exact ⟨by rw [e,setRow_other _ _ _ _ (by omega)];exact h.b,by rw [e,setRow_other _ _ _ _ (by omega)];exact h.d,by rw [e,setRow_heap _ _ _ _ _ _ h.e],h.gap,h.below.setCell (p:=⟨g2+1,k,none⟩) (by show g≤g2+1;omega) _⟩
def byteF (V i:Nat):UInt8:=UInt8.ofNat (V/256^i)
theorem bytes_end (V:Nat):updTo (List.replicate 32 0) (byteF V) 32=leB 32 V:=by
 refine list_ext_getD (by rw [updTo_len,zav];simp) fun i hi=>?_
 rw [updTo_len] at hi
 have hi':i<32:=by simpa using hi
 rw [updTo_get hi,if_pos hi',leB_get _ _ _ hi']
 rfl
set_option maxHeartbeats 3200000 in
theorem febytes_any {c:Array Value} {x:Nat} (hx:feR c x) (w:World):Calls Tryz.prog 94 #[.agg c] w (RetV w (.agg (bytT x))):=by
 have ic:=feR_info hx
 have hxl:x<PP:=by obtain ⟨_,_,_,_,_,-,-,-,-,-,-,rfl⟩:=hx;exact Nat.mod_lt _ (by decide)
 have HD:Hid (∀ W':World,Calls Tryz.prog 127 #[.agg c] W' (RetV W' (.agg (redA x)))):=yh fun W'=>reduced_any hx W'
 have iS:(Tryz.prog.info? 63).map (·.size)=some (redA x).size:=limb5_info _ _ _ _ _
 have sS:(#[.int .u64 0,.int .u64 0,.int .u64 0,.int .u64 0,.int .u64 0]:Array Value).size=(redA x).size:=rfl
 have oS:(redA x).all (·.oneCell')=true:=limb5_one _ _ _ _ _
 have hV:=val5_bits x
 rw [Nat.mod_eq_of_lt (show x<TT by unfold PP at hxl;unfold TT;omega)] at hV
 have hm:=fun y:Nat=>Nat.mod_lt y (show M51 > 0 by decide)
 obtain ⟨y0,y1,y2,y3⟩:=bytes_wordsF _ _ _ _ _ x (hm _) (hm _) (hm _) (hm _) (hm _) hV
 have j0:=hm x
 have j1:=hm (x/M51)
 have j2:=hm (x/M102)
 have j3:=hm (x/M153)
 have j4:=hm (x/M204)
 have HA:Hid (redA x=#[.int .u64 ((x % M51:Nat):Int),.int .u64 ((x/M51 % M51:Nat):Int),.int .u64 ((x/M102 % M51:Nat):Int),.int .u64 ((x/M153 % M51:Nat):Int),.int .u64 ((x/M204 % M51:Nat):Int)]):=yh rfl
 generalize redA x=RA at *
 generalize x % M51=r0 at *
 generalize x/M51 % M51=r1 at *
 generalize x/M102 % M51=r2 at *
 generalize x/M153 % M51=r3 at *
 generalize x/M204 % M51=r4 at *
 unfold M51 at j0 j1 j2 j3 j4
 have e0:=or_low r0 (r1 % 8192) 51 (by omega) (by omega) (by omega)
 have e1:=or_low (r1/8192) (r2 % 67108864) 38 (by omega) (by omega) (by omega)
 have e2:=or_low (r2/67108864) (r3 % 549755813888) 25 (by omega) (by omega) (by omega)
 have e3:=or_low (r3/549755813888) r4 12 (by omega) (by omega) (by omega)
 rw [y0] at e0
 rw [y1] at e1
 rw [y2] at e2
 rw [y3] at e3
 have d1:(r1:Int)/8192=((r1/8192:Nat):Int):=by omega
 have d2:(r2:Int)/67108864=((r2/67108864:Nat):Int):=by omega
 have d3:(r3:Int)/549755813888=((r3/549755813888:Nat):Int):=by omega
 have m0:IntKind.u64.wrap ((r1:Int)*2251799813685248)=((2^51*(r1 % 8192):Nat):Int):=by rw [IntKind.wrap_u64];omega
 have m1:IntKind.u64.wrap ((r2:Int)*274877906944)=((2^38*(r2 % 67108864):Nat):Int):=by rw [IntKind.wrap_u64];omega
 have m2:IntKind.u64.wrap ((r3:Int)*33554432)=((2^25*(r3 % 549755813888):Nat):Int):=by rw [IntKind.wrap_u64];omega
 have m3:(r4:Int)*4096=((2^12*r4:Nat):Int):=by omega
 have m3l:2^12*r4<18446744073709551616:=by omega
 generalize 2^51*(r1 % 8192)=k0 at *
 generalize 2^38*(r2 % 67108864)=k1 at *
 generalize 2^25*(r3 % 549755813888)=k2 at *
 generalize 2^12*r4=k3 at *
 generalize r1/8192=h1 at *
 generalize r2/67108864=h2 at *
 generalize r3/549755813888=h3 at *
 have HWD:Hid (wdA x=#[.int .u64 (wq x 0:Int),.int .u64 (wq x 1:Int),.int .u64 (wq x 2:Int),.int .u64 (wq x 3:Int)]):=yh rfl
 have HQ:Hid (∀ i,i<32→wq x (i/8)/2^(i % 8*8) % 256=x/256^i % 256):=yh (byte_of x)
 have hzb:=fun u=>arr32_zero u
 have nB:=zat (l:=leB 32 x) (zav _ _)
 have oB:=zaq (leB 32 x)
 have iB:=zaf (zav 32 x)
 have ZB:zah=arrB (updTo (List.replicate 32 0) (byteF x) 0):=by rw [updTo_zero];rfl
 rw [show arrB (List.replicate 32 0)=zah from rfl] at hzb
 have HZB:=yh ZB
 have Hend:Hid (arrB (updTo (List.replicate 32 0) (byteF x) 32)=arrB (leB 32 x)):=yh (by rw [bytes_end])
 unfold bytT
 obtain ⟨OUT,hOUT⟩:∃ o,arrB (leB 32 x)=o:=⟨_,rfl⟩
 rw [hOUT] at nB oB iB Hend ⊢
 generalize zah=z32 at *
 have hW:RowsW ((w.alloc (.cells c 63)).alloc (.cells z32 22)) [(w.heap.size+1,z32,22),(w.heap.size,c,63)]:=by
  have h:=((RowsW.nil w).box c 63).box z32 22
  simp only [World.size_alloc] at h
  exact h
 have hld:=hW.tail.head
 obtain ⟨W1,hW1⟩:∃ W1,(w.alloc (.cells c 63)).alloc (.cells z32 22)=W1:=⟨_,rfl⟩
 have HB1:Hid (Below w.heap.size w W1):=yh (by rw [← hW1];exact zab (zab (Below.refl _ _) _) _)
 have HR:=yh hW
 rw [hW1] at HR
 have HW1:=yh hW1
 clear hW hW1 hx hxl hV hm y0 y1 y2 y3 ZB hOUT j0 j1 j2 j3 j4
 go_enter Tryz.func94,Tryz.ntmps94
 go_wp2_with (refine yi hld Tryz.underlying63 ic ?_)
 rw [HW1.out]
 with_reducible refine (HD.out _).mono ?_
 rintro e w2 ⟨rfl,hb2⟩
 have HR2:=yh (HR.out.below hb2)
 have HB2:=yh (zaa HB1.out hb2)
 clear hb2 hld HW1 HR HD
 have h3:(w2.alloc (.cells #[.int .u64 0,.int .u64 0,.int .u64 0,.int .u64 0,.int .u64 0] 63)).heap[w2.heap.size]?=some (.cells #[.int .u64 0,.int .u64 0,.int .u64 0,.int .u64 0,.int .u64 0] 63 (0,0)):=heap_alloc_new _ _
 have HR3:=yh (HR2.out.new #[.int .u64 0,.int .u64 0,.int .u64 0,.int .u64 0,.int .u64 0] RA 63)
 have HB3:=yh (zau HB2.out #[.int .u64 0,.int .u64 0,.int .u64 0,.int .u64 0,.int .u64 0] RA 63)
 go_upto_region 2 with (refine yj RA h3 iS sS oS ?_)
 obtain ⟨W3,hW3⟩:∃ X,(w2.alloc (.cells #[.int .u64 0,.int .u64 0,.int .u64 0,.int .u64 0,.int .u64 0] 63)).setRow w2.heap.size RA=X:=⟨_,rfl⟩
 obtain ⟨gr,hgr⟩:∃ X,w2.heap.size=X:=⟨_,rfl⟩
 rw [hW3,hgr] at HR3
 rw [hW3] at HB3
 rw [hW3,hgr]
 clear hW3 hgr h3 HR2 HB2
 have c0:W3.cell? ⟨gr,0,none⟩=some (.int .u64 (r0:Int)):=by rw [cell_of_row _ _ _ _ _ _ HR3.out.head,HA.out];rfl
 have c1:W3.cell? ⟨gr,1,none⟩=some (.int .u64 (r1:Int)):=by rw [cell_of_row _ _ _ _ _ _ HR3.out.head,HA.out];rfl
 have c2:W3.cell? ⟨gr,2,none⟩=some (.int .u64 (r2:Int)):=by rw [cell_of_row _ _ _ _ _ _ HR3.out.head,HA.out];rfl
 have c3:W3.cell? ⟨gr,3,none⟩=some (.int .u64 (r3:Int)):=by rw [cell_of_row _ _ _ _ _ _ HR3.out.head,HA.out];rfl
 have c4:W3.cell? ⟨gr,4,none⟩=some (.int .u64 (r4:Int)):=by rw [cell_of_row _ _ _ _ _ _ HR3.out.head,HA.out];rfl
 have hrow1:w.heap.size+1<W3.heap.size:=(Array.getElem?_eq_some_iff.1 HR3.out.tail.head).1
 have HI:Hid (Fiv 63 22 63 75 22 w ((W3.alloc (.cells (wdA x) 75)).alloc (.cells z32 22)) w.heap.size W3.heap.size #[] z32 #[] (wdA x) (arrB (updTo (List.replicate 32 0) (byteF x) 0))):=yh (by
  have hr:=((HR3.out.box (wdA x) 75).box z32 22)
  simp only [World.size_alloc] at hr
  refine ⟨hr.tail.tail.tail.head,hr.tail.head,?_,hrow1,zab (zab HB3.out _) _⟩
  rw [← HZB.out]
  exact hr.head)
 rw [HWD.out] at HI
 have HG:Hid (w.heap.size+1<W3.heap.size):=yh hrow1
 clear HR3 HB3 hrow1
 go_wp2_with fail
 rw [← HWD.out] at HI
 rw [← HWD.out]
 obtain ⟨W5,hW5⟩:∃ X,(W3.alloc (.cells (wdA x) 75)).alloc (.cells z32 22)=X:=⟨_,rfl⟩
 obtain ⟨g2,hg2⟩:∃ X,W3.heap.size=X:=⟨_,rfl⟩
 obtain ⟨g,hg⟩:∃ X,w.heap.size=X:=⟨_,rfl⟩
 rw [hW5,hg2,hg] at HI
 rw [hW5,hg2,hg]
 have HGG:=yh hg
 clear hW5 hg2 hg c0 c1 c2 c3 c4 e0 e1 e2 e3 m0 m1 m2 m3 m3l d1 d2 d3 HWD HA HG
 go_loopw [37] (fun i wr=>∃ k:Nat,k≤32∧i=.int .i64 (k:Int)∧Hid (Fiv 63 22 63 75 22 w wr g g2 #[] z32 #[] (wdA x) (arrB (updTo (List.replicate 32 0) (byteF x) k)))) (fun i _=>32-(intOf i).toNat)
 case atStart=>exact ⟨0,by omega,rfl,HI⟩
 case round =>
  clear HI
  obtain ⟨k,hk,rfl,HI⟩:=hrel
  by_cases hlt:k<32
  ·have hq:=HQ.out k hlt
   have hd4:k/8<4:=by omega
   obtain ⟨d,hd⟩:∃ d,k/8=d:=⟨_,rfl⟩
   obtain ⟨r,hr⟩:∃ r,k % 8=r:=⟨_,rfl⟩
   obtain ⟨e,he⟩:∃ e,r*8=e:=⟨_,rfl⟩
   rw [hd,hr,he] at hq
   rw [hd] at hd4
   have hel:e<57:=by omega
   have cz:wr.cell? ⟨g2,d,none⟩=some (.int .u64 (wq x d:Int)):=by rw [cell_of_row _ _ _ _ _ _ HI.out.d,wdA_get _ _ hd4]
   have hlen:(updTo (List.replicate 32 0) (byteF x) k).length=32:=by rw [updTo_len];simp
   have ce:wr.cell? ⟨g2+1,k,none⟩=some (.int .u8 (((updTo (List.replicate 32 0) (byteF x) k).getD k 0).toNat:Int)):=by rw [cell_of_row _ _ _ _ _ _ HI.out.e,zaN _ _ (by omega)]
   have fe:wr.frozen? ⟨g2+1,k,none⟩=false:=by have:=HI.out.e;simp [World.frozen?,this]
   obtain ⟨t,ht⟩:∃ t,wq x d/2^e=t:=⟨_,rfl⟩
   rw [ht] at hq
   obtain ⟨v,hv⟩:∃ v,t % 256=v:=⟨_,rfl⟩
   have hb:(byteF x k).toNat=v:=by unfold byteF;rw [← hv,hq];simp
   have HI2:Hid (Fiv 63 22 63 75 22 w (wr.setCell ⟨g2+1,k,none⟩ (.int .u8 (v:Int))) g g2 #[] z32 #[] (wdA x) (arrB (updTo (List.replicate 32 0) (byteF x) (k+1)))):=yh (by
    rw [← updTo_step (by simpa using hlt),← arrB_set,hb]
    exact HI.out.set k _)
   have f6:((wq x d:Nat):Int)/2^e=(t:Int):=by rw [← ht,Int.natCast_ediv];simp
   have f7:IntKind.u8.wrap (t:Int)=(v:Int):=by rw [IntKind.wrap_u8];omega
   have f1:(k:Int).tdiv 8=(d:Int):=by rw [Int.tdiv_eq_ediv_of_nonneg (by omega)];omega
   have f1':(k:Int)/8=(d:Int):=by omega
   have f3:(k:Int).tmod 8=(r:Int):=by rw [Int.tmod_eq_emod_of_nonneg (by omega)];omega
   have f3':(k:Int) % 8=(r:Int):=by omega
   have f4:(r:Int)*8=(e:Int):=by omega
   have b1:0≤(d:Int):=by omega
   have b2:(d:Int)<4:=by omega
   have b3:0≤(e:Int):=by omega
   have b5:0≤(k:Int):=by omega
   have b6:(k:Int)<32:=by omega
   generalize ((updTo (List.replicate 32 0) (byteF x) k).getD k 0)=old at *
   generalize wq x d=q at *
   clear HI hq hd hr he hb hlen ht hv
   go_wp2_with fail
   go_roundw
   case rel=>exact ⟨k+1,by omega,by go_num,HI2⟩
   case measure=>simp [intOf];omega
  ·obtain rfl:k=32:=by omega
   rw [Hend.out] at HI
   have h1:=HI.out.e
   have h0:=HI.out.b
   have HB:Hid (Below w.heap.size w (wr.setRow (g+1) OUT)):=yh (by rw [HGG.out];exact zad HI.out.below (by omega))
   clear HI
   go_wp2_with (first
    | (refine yi h1 Tryz.underlying22 iB ?_)
    | (refine yj OUT h0 iB nB oB ?_))
   (try simp only [Exit.inBlock,Exit.then])
   refine bodyPost_ret (results_cell_row rfl _ _ (g+1) _ OUT _ _ rfl (setRow_heap _ _ _ _ _ _ h0) Tryz.underlying22 rfl iB) rfl ?_
   exact ⟨rfl,HB.out⟩
end Go.Proofs.YtkgodlcnoenmbaaGreat
namespace Go.Proofs.YtkgodlcnoenmbaaGreat
open Go.RowKit
set_option linter.unusedVariables false
set_option maxRecDepth 100000
set_option maxHeartbeats 1600000 in
theorem fecan_any (l:List UInt8) (hl:l.length=32) (w:World):Calls Tryz.prog 76 #[.agg (arrB l)] w (RetV w (.bool (canN l))):=by
 rw [← canN_iff hl]
 have htl:=topC_len l
 rw [hl] at htl
 have HFR:Hid (∀ W:World,Calls Tryz.prog 77 #[.agg (arrB (topC l))] W (RetFe feR W (feN (topC l)))):=yh fun W=>fefrom_any _ htl W
 have heq:=fun u:World=>eqB_run (P:=Tryz.prog) 22 5 32 (leB 32 (feN (topC l))) (topC l) (zav _ _) htl Tryz.underlying22 Tryz.underlying5 (fun w=>by kernel_rfl) (fun w=>by kernel_rfl) u
 obtain ⟨res,hres⟩:∃ r,decide (leB 32 (feN (topC l))=topC l)=r:=⟨_,rfl⟩
 rw [hres] at heq ⊢
 have HBY:Hid (∀ (S:Array Value),feR S (feN (topC l))→∀ W:World,Calls Tryz.prog 94 #[.agg S] W (RetV W (.agg (arrB (leB 32 (feN (topC l))))))):=yh fun S hS W=>febytes_any hS W
 obtain ⟨B2,hB2⟩:∃ B,arrB (leB 32 (feN (topC l)))=B:=⟨_,rfl⟩
 rw [hB2] at HBY heq
 have h0:(w.alloc (.cells (arrB l) 22)).heap[w.heap.size]?=some (.cells (arrB l) 22 (0,0)):=heap_alloc_new _ _
 obtain ⟨a,ha⟩:∃ a,l.getD 31 0=a:=⟨_,rfl⟩
 have cx:(w.alloc (.cells (arrB l) 22)).cell? ⟨w.heap.size,31,none⟩=some (.int .u8 (a.toNat:Int)):=by rw [cell_of_row _ _ _ _ _ _ h0,zaN _ _ (by omega),ha]
 have f1:bits .and .u8 (a.toNat:Int) 127=((a &&& 127).toNat:Int):=u8_and' a 127
 have eT:(arrB l).setIfInBounds 31 (.int .u8 ((a &&& 127).toNat:Int))=arrB (topC l):=by rw [arrB_set,← ha];rfl
 have h1:(w.alloc (.cells (arrB (topC l)) 22)).heap[w.heap.size]?=some (.cells (arrB (topC l)) 22 (0,0)):=heap_alloc_new _ _
 have hb:Below w.heap.size w (w.alloc (.cells (arrB (topC l)) 22)):=(Below.refl w.heap.size w).alloc (Nat.le_refl _) _
 have nT:(arrB (topC l)).size=32:=by rw [zam,htl]
 have iT:(Tryz.prog.info? 22).map (·.size)=some (arrB (topC l)).size:=by rw [nT];kernel_rfl
 obtain ⟨L0,hL0⟩:∃ L,arrB l=L:=⟨_,rfl⟩
 rw [hL0] at cx eT ⊢
 obtain ⟨T,hT⟩:∃ L,arrB (topC l)=L:=⟨_,rfl⟩
 rw [hT] at HFR heq h1 hb iT eT
 have fx:=frozen_row h0 31
 rw [hL0] at fx
 have hm32:Tryz.prog.eqGuardType Tryz.prog.depth 22=false:=by kernel_rfl
 obtain ⟨m,hm⟩:∃ m:Int,((a &&& 127).toNat:Int)=m:=⟨_,rfl⟩
 rw [hm] at f1 eT
 obtain ⟨W1,hW1⟩:∃ W1,w.alloc (.cells T 22)=W1:=⟨_,rfl⟩
 rw [hW1] at h1 hb
 have hlt:w.heap.size<W1.heap.size:=(Array.getElem?_eq_some_iff.1 h1).1
 have HROW:Hid (∀ W,Below W1.heap.size W1 W→W.heap[w.heap.size]?=some (.cells T 22 (0,0))):=yh fun W h=>by rw [h.block _ hlt];exact h1
 have HB:=yh hb
 have HW1:=yh hW1
 have HET:=yh eT
 clear htl hl hres hB2 h0 ha eT h1 hb nT hL0 hT hm hlt hW1
 go_enter Tryz.func76,Tryz.ntmps76
 go_upto_region 2 with fail
 rw [HET.out,HW1.out]
 clear HW1 HET cx f1 fx
 refine wp_region_noPanic ?_
 refine wp_region_held_drew (S:=fun W=>Below W1.heap.size W1 W) (by kernel_rfl) (by exact (Below.refl _ _).drew) (fun hS=>?_)
 refine' yk 0  hS ?_ (hy:=fun W hSW=>zac rfl rfl (HROW.out W hSW) Tryz.underlying22 rfl iT)
 refine' yk 3  hS ?_ (hy:=fun W hSW=>zac rfl rfl (HROW.out W hSW) Tryz.underlying22 rfl iT)
 refine xk 1  (fun K hK=>?_)
 go_simp
 with_reducible refine (HFR.out _).mono ?_
 rintro e v1 ⟨S,rfl,hR,hb1⟩
 have HB3:=yh fun W:World=>HBY.out S hR W
 clear hR
 have kb1:=zaa hS hb1
 clear hS hb1
 refine hK.out _ _ (by exact kb1) (fun hS=>?_)
 clear hK K
 refine xk 2  (fun K hK=>?_)
 go_simp
 with_reducible refine (HB3.out _).mono ?_
 rintro e v2 ⟨rfl,hb2⟩
 have kb2:=zaa kb1 hb2
 clear hS hb2
 refine hK.out _ _ (by exact kb2) (fun hS=>?_)
 clear hK K
 refine' yk 4  hS ?_ (hy:=fun W hSW=>run_eql2 rfl rfl rfl hm32 (heq W))
 refine' yk 5  hS ?_
 refine wpAnyH_done (by kernel_rfl) ?_ _
 refine NoPanic.normal ?_
 clear hS
 (try simp only [Act.put])
 go_wp2_with fail
 go_ret
 exact ⟨rfl,zaa HB.out kb2⟩
theorem feB:FeB feR where
 lt:=fun h=>by obtain ⟨_,_,_,_,_,-,-,-,-,-,-,rfl⟩:=h;exact Nat.mod_lt _ (by decide)
 info:=feR_info
 one:=feR_one
 zero:=⟨#[.int .u64 0,.int .u64 0,.int .u64 0,.int .u64 0,.int .u64 0],fun u=>zero_arr 63 _ 5 (by kernel_rfl) u,feR_zero⟩
theorem feC:FeC feR where
 base:=feB
 from_:=fefrom_any
 small:=fesmall_any
 can:=fecan_any
 bytes:=febytes_any
 add:=feadd_any
 sub:=fesub_any
 mul:=femul_any
 square:=fesquare_any
 neg:=feneg_any
 equal:=feequal_any
 isZero:=feiszero_any
 odd:=feodd_any
end Go.Proofs.YtkgodlcnoenmbaaGreat
