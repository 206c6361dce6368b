/-
  A part of what the proof of EdKnown rests on: plain lemmas and contracts of the functions that it calls. No conditions but what each theorem states.
-/
import Derived.Test.YtkgodlcnoenmbaaGreatEdKnownK4
namespace Go.Proofs.YtkgodlcnoenmbaaGreat
open Go.RowKit
set_option linter.unusedVariables false
set_option maxRecDepth 100000
set_option maxHeartbeats 6400000
theorem ptdouble_any {R:Array Value→Nat→Prop} (C:FeC R) {a1 b1 d1 f1:Array Value} {X1 Y1 Z1 T1:Nat} {p1:PtD} (ha1:R a1 X1) (hb1:R b1 Y1) (hd1:R d1 Z1) (hf1:R f1 T1) (hP1:Pq X1 Y1 Z1 T1 p1) (w:World):Calls Tryz.prog 130 #[.agg (quad a1 b1 d1 f1)] w (RetPt (ptRof R) w (padd p1 p1)):=by
 have Ra1:=yh ha1
 have Rb1:=yh hb1
 have Rd1:=yh hd1
 have Rf1:=yh hf1
 clear ha1 hb1 hd1 hf1
 have LX1:Hid (X1<PP):=yh (C.base.lt Ra1.out)
 have LY1:Hid (Y1<PP):=yh (C.base.lt Rb1.out)
 have LZ1:Hid (Z1<PP):=yh (C.base.lt Rd1.out)
 have LT1:Hid (T1<PP):=yh (C.base.lt Rf1.out)
 have HP1:=yh hP1
 clear hP1
 obtain ⟨Z,hZ,rZ⟩:=C.base.zero
 have RZZ:=yh rZ
 have hzP:=zp_of hZ
 have hz32:=zaq
 clear rZ
 have HR0:=yh (((RowsW.nil w).box (quad a1 b1 d1 f1) 65).box (quad Z Z Z Z) 65)
 have HB0:=yh (zae (zae (Below.refl w.heap.size w) (quad a1 b1 d1 f1) 65) (quad Z Z Z Z) 65)
 rw [World.size_alloc] at HR0
 go_enter Tryz.func130,Tryz.ntmps130
 go_upto_region 1 with fail
 obtain ⟨W0,hW0⟩:∃ W,((w.alloc (.cells (quad a1 b1 d1 f1) 65)).alloc (.cells (quad Z Z Z Z) 65))=W:=⟨_,rfl⟩
 obtain ⟨g0,hg0⟩:∃ g,w.heap.size=g:=⟨_,rfl⟩
 rw [hW0] at HR0 HB0
 rw [hg0] at HR0
 rw [hW0,hg0]
 have HG0:=yh hg0
 clear hW0 hg0
 refine wp_region_noPanic ?_
 refine wp_region_heldB2 6 3 63 Z 7 4 63 Z (by kernel_rfl) (by kernel_rfl) ⟨⟨by kernel_rfl,by kernel_rfl,hZ,fun _ _ _ h=>h⟩,⟨by kernel_rfl,by kernel_rfl,hZ,fun _ _ _ h=>h⟩,by kernel_rfl⟩ (fun hA hS=>?_)
 refine' yC 0 hA hS ?_
 refine' yC 1 hA hS ?_ (hy:=fun W hSW=>zal rfl rfl (HR0.out.below hSW).tail.head Tryz.underlying63 rfl (C.base.info Ra1.out) pp_0)
 refine' yC 3 hA hS ?_
 refine' yC 4 hA hS ?_ (hy:=fun W hSW=>zal rfl rfl (HR0.out.below hSW).tail.head Tryz.underlying63 rfl (C.base.info Rb1.out) (pp_1 (fe5 C.base Ra1.out)))
 refine xC 2 hA hS (fun oq2 pq2 Xq2 hS K hK=>?_)
 go_simp
 obtain ⟨n1,Hn1,HLn1⟩:=ym (K:=PP) ((X1*X1) % PP) (Nat.mod_lt _ (by decide))
 with_reducible refine ((C.square Ra1.out) _).mono ?_
 rintro e vq2 ⟨cq2,rfl,rq2,hbq2⟩
 rw [Hn1.out] at rq2
 have Rq2:=yh rq2
 clear rq2
 refine hK.out _ _ hbq2 (fun hS=>?_)
 clear hK K hbq2
 refine xC 5 hA hS (fun oq4 pq4 Xq4 hS K hK=>?_)
 go_simp
 obtain ⟨n3,Hn3,HLn3⟩:=ym (K:=PP) ((Y1*Y1) % PP) (Nat.mod_lt _ (by decide))
 with_reducible refine ((C.square Rb1.out) _).mono ?_
 rintro e vq4 ⟨cq4,rfl,rq4,hbq4⟩
 rw [Hn3.out] at rq4
 have Rq4:=yh rq4
 clear rq4
 refine hK.out _ _ hbq4 (fun hS=>?_)
 clear hK K hbq4
 refine' both_atB2 8 hA (by kernel_rfl) (by kernel_rfl) (by kernel_rfl) (by kernel_rfl) (by kernel_rfl) hS ?_ ?_
 rotate_left 1
 ·intro g g';simp only [List.set_cons_succ,List.set_cons_zero];rfl
 intro gq6 gq7 Xq5 hgq6 hgq7 hneq5 hbq5 haq5 hcq5
 clear hA hS
 have hdq5:(Xq5.setRow gq6 cq2).heap[gq7]?=some (.cells Z 63 (0,0)):=by rw [setRow_other _ _ _ _ (Ne.symm hneq5)];exact hcq5
 have heq5:((Xq5.setRow gq6 cq2).setRow gq7 cq4).heap[gq6]?=some (.cells cq2 63 (0,0)):=by rw [setRow_other _ _ _ _ hneq5];exact setRow_heap _ _ _ _ _ _ haq5
 refine xk 8  (fun K hK=>?_)
 refine wp_store_row 63 (.tmp 3) (.tmp 11) rfl gq6 cq2 rfl rfl 63 Z haq5 (C.base.info Rq2.out) (C.base.size RZZ.out Rq2.out) (C.base.one Rq2.out) ?_
 refine hK.out _ _ (by exact (zac hbq5 hgq6)) (fun hS=>?_)
 clear hK K
 refine xk 9  (fun K hK=>?_)
 refine wp_store_row 63 (.tmp 4) (.tmp 14) rfl gq7 cq4 rfl rfl 63 Z hdq5 (C.base.info Rq4.out) (C.base.size RZZ.out Rq4.out) (C.base.one Rq4.out) ?_
 refine hK.out _ _ (by exact (zac (zac hbq5 hgq6) hgq7)) (fun hS=>?_)
 clear hK K
 clear hS
 refine wpAnyH_done (by kernel_rfl) ?_ _
 refine NoPanic.normal ?_
 (try simp only [Act.put])
 have HRq5:Hid (RowsW ((Xq5.setRow gq6 cq2).setRow gq7 cq4) [(gq7,cq4,63),(gq6,cq2,63),((g0+1),(quad Z Z Z Z),65),(g0,(quad a1 b1 d1 f1),65)]):=yh ⟨setRow_heap _ _ _ _ _ _ hdq5,heq5,((HR0.out.below hbq5).setRow (fun r hr=>by have h:=HR0.out.lt r hr;have:=hgq6;omega) _).setRow (fun r hr=>by have h:=HR0.out.lt r hr;have:=hgq7;omega) _⟩
 have HBq5:Hid (Below w.heap.size w ((Xq5.setRow gq6 cq2).setRow gq7 cq4)):=yh (zaa HB0.out (zac (zac hbq5 hgq6) hgq7))
 have NEq6_0:Hid (g0≠gq6):=yh (by have h:=HR0.out.lt (g0,(quad a1 b1 d1 f1),65) (by simp);have:=hgq6;simp only at h;omega)
 have NEq7_0:Hid (g0≠gq7):=yh (by have h:=HR0.out.lt (g0,(quad a1 b1 d1 f1),65) (by simp);have:=hgq7;simp only at h;omega)
 have NEq6_1:Hid ((g0+1)≠gq6):=yh (by have h:=HR0.out.lt ((g0+1),(quad Z Z Z Z),65) (by simp);have:=hgq6;simp only at h;omega)
 have NEq7_1:Hid ((g0+1)≠gq7):=yh (by have h:=HR0.out.lt ((g0+1),(quad Z Z Z Z),65) (by simp);have:=hgq7;simp only at h;omega)
 have NEq7_2:Hid (gq6≠gq7):=yh hneq5
 have HGq6:=yh (Nat.le_trans HB0.out.size hgq6)
 have HGq7:=yh (Nat.le_trans HB0.out.size hgq7)
 obtain ⟨Wq5,hWq5⟩:∃ W,((Xq5.setRow gq6 cq2).setRow gq7 cq4)=W:=⟨_,rfl⟩
 rw [hWq5] at HRq5 HBq5
 (try rw [hWq5])
 clear hWq5 haq5 hcq5 hdq5 heq5 hgq6 hgq7 hneq5 hbq5
 go_upto_region 2 with fail
 have l8:=HRq5.out.tail.tail.tail.head
 go_wp2_with (refine zaj (o:=⟨some 16,_,_,_,_,_⟩) rfl (.agg d1) (zal rfl rfl l8 Tryz.underlying63 rfl (C.base.info Rd1.out) (pp_2 (fe5 C.base Ra1.out) (fe5 C.base Rb1.out))) ?_)
 obtain ⟨n9,Hn9,HLn9⟩:=ym (K:=PP) ((Z1*Z1) % PP) (Nat.mod_lt _ (by decide))
 with_reducible refine ((C.square Rd1.out) _).mono ?_
 rintro e vq10 ⟨cq10,rfl,rq10,hbq10⟩
 rw [Hn9.out] at rq10
 have Rq10:=yh rq10
 clear rq10
 have HRq10:=yh (HRq5.out.below hbq10)
 have HBq10:=yh (zaa HBq5.out hbq10)
 clear hbq10
 have h0q11:(vq10.alloc (.cells Z 63)).heap[vq10.heap.size]?=some (.cells Z 63 (0,0)):=heap_alloc_new _ _
 have HRq11:=yh (HRq10.out.new Z cq10 63)
 have HBq11:=yh (zau HBq10.out Z cq10 63)
 have HNq11:=yh HRq10.out.ne
 have HGq11:=yh HBq10.out.size
 go_upto_region 3 with (refine yj cq10 h0q11 (C.base.info Rq10.out) (C.base.size RZZ.out Rq10.out) (C.base.one Rq10.out) ?_)
 obtain ⟨Wq11,hWq11⟩:∃ W,(vq10.alloc (.cells Z 63)).setRow vq10.heap.size cq10=W:=⟨_,rfl⟩
 obtain ⟨gq11,hgq11⟩:∃ g,vq10.heap.size=g:=⟨_,rfl⟩
 rw [hWq11,hgq11] at HRq11
 rw [hWq11] at HBq11
 rw [hgq11] at HNq11 HGq11
 rw [hWq11,hgq11]
 clear hWq11 hgq11 h0q11
 have NEq11_0:Hid (g0≠gq11):=yh (HNq11.out (g0,(quad a1 b1 d1 f1),65) (by simp))
 have NEq11_1:Hid ((g0+1)≠gq11):=yh (HNq11.out ((g0+1),(quad Z Z Z Z),65) (by simp))
 have NEq11_2:Hid (gq6≠gq11):=yh (HNq11.out (gq6,cq2,63) (by simp))
 have NEq11_3:Hid (gq7≠gq11):=yh (HNq11.out (gq7,cq4,63) (by simp))
 refine wp_region_noPanic ?_
 refine wp_region_heldB2 6 6 63 Z 7 7 63 Z (by kernel_rfl) (by kernel_rfl) ⟨⟨by kernel_rfl,by kernel_rfl,hZ,fun _ _ _ h=>h⟩,⟨by kernel_rfl,by kernel_rfl,hZ,fun _ _ _ h=>h⟩,by kernel_rfl⟩ (fun hA hS=>?_)
 refine' yC 0 hA hS ?_ (hy:=fun W hSW=>zad rfl rfl (HRq11.out.below hSW).tail.tail.head Tryz.underlying63 rfl (C.base.info Rq2.out))
 refine' yC 1 hA hS ?_ (hy:=fun W hSW=>zad rfl rfl (HRq11.out.below hSW).tail.head Tryz.underlying63 rfl (C.base.info Rq4.out))
 refine' yC 3 hA hS ?_ (hy:=fun W hSW=>zad rfl rfl (HRq11.out.below hSW).tail.head Tryz.underlying63 rfl (C.base.info Rq4.out))
 refine' yC 4 hA hS ?_ (hy:=fun W hSW=>zad rfl rfl (HRq11.out.below hSW).tail.tail.head Tryz.underlying63 rfl (C.base.info Rq2.out))
 refine xC 2 hA hS (fun oq13 pq13 Xq13 hS K hK=>?_)
 go_simp
 obtain ⟨n12,Hn12,HLn12⟩:=ym (K:=PP) ((n1+n3) % PP) (Nat.mod_lt _ (by decide))
 with_reducible refine ((C.add Rq2.out Rq4.out) _).mono ?_
 rintro e vq13 ⟨cq13,rfl,rq13,hbq13⟩
 rw [Hn12.out] at rq13
 have Rq13:=yh rq13
 clear rq13
 refine hK.out _ _ hbq13 (fun hS=>?_)
 clear hK K hbq13
 refine xC 5 hA hS (fun oq15 pq15 Xq15 hS K hK=>?_)
 go_simp
 obtain ⟨n14,Hn14,HLn14⟩:=ym (K:=PP) ((n3+(PP-n1)) % PP) (Nat.mod_lt _ (by decide))
 with_reducible refine ((C.sub Rq4.out Rq2.out) _).mono ?_
 rintro e vq15 ⟨cq15,rfl,rq15,hbq15⟩
 rw [Hn14.out] at rq15
 have Rq15:=yh rq15
 clear rq15
 refine hK.out _ _ hbq15 (fun hS=>?_)
 clear hK K hbq15
 refine' both_atB2 8 hA (by kernel_rfl) (by kernel_rfl) (by kernel_rfl) (by kernel_rfl) (by kernel_rfl) hS ?_ ?_
 rotate_left 1
 ·intro g g';simp only [List.set_cons_succ,List.set_cons_zero];rfl
 intro gq17 gq18 Xq16 hgq17 hgq18 hneq16 hbq16 haq16 hcq16
 clear hA hS
 have hdq16:(Xq16.setRow gq17 cq13).heap[gq18]?=some (.cells Z 63 (0,0)):=by rw [setRow_other _ _ _ _ (Ne.symm hneq16)];exact hcq16
 have heq16:((Xq16.setRow gq17 cq13).setRow gq18 cq15).heap[gq17]?=some (.cells cq13 63 (0,0)):=by rw [setRow_other _ _ _ _ hneq16];exact setRow_heap _ _ _ _ _ _ haq16
 refine xk 8  (fun K hK=>?_)
 refine wp_store_row 63 (.tmp 6) (.tmp 20) rfl gq17 cq13 rfl rfl 63 Z haq16 (C.base.info Rq13.out) (C.base.size RZZ.out Rq13.out) (C.base.one Rq13.out) ?_
 refine hK.out _ _ (by exact (zac hbq16 hgq17)) (fun hS=>?_)
 clear hK K
 refine xk 9  (fun K hK=>?_)
 refine wp_store_row 63 (.tmp 7) (.tmp 23) rfl gq18 cq15 rfl rfl 63 Z hdq16 (C.base.info Rq15.out) (C.base.size RZZ.out Rq15.out) (C.base.one Rq15.out) ?_
 refine hK.out _ _ (by exact (zac (zac hbq16 hgq17) hgq18)) (fun hS=>?_)
 clear hK K
 clear hS
 refine wpAnyH_done (by kernel_rfl) ?_ _
 refine NoPanic.normal ?_
 (try simp only [Act.put])
 have HRq16:Hid (RowsW ((Xq16.setRow gq17 cq13).setRow gq18 cq15) [(gq18,cq15,63),(gq17,cq13,63),(gq11,cq10,63),(gq7,cq4,63),(gq6,cq2,63),((g0+1),(quad Z Z Z Z),65),(g0,(quad a1 b1 d1 f1),65)]):=yh ⟨setRow_heap _ _ _ _ _ _ hdq16,heq16,((HRq11.out.below hbq16).setRow (fun r hr=>by have h:=HRq11.out.lt r hr;have:=hgq17;omega) _).setRow (fun r hr=>by have h:=HRq11.out.lt r hr;have:=hgq18;omega) _⟩
 have HBq16:Hid (Below w.heap.size w ((Xq16.setRow gq17 cq13).setRow gq18 cq15)):=yh (zaa HBq11.out (zac (zac hbq16 hgq17) hgq18))
 have NEq17_0:Hid (g0≠gq17):=yh (by have h:=HRq11.out.lt (g0,(quad a1 b1 d1 f1),65) (by simp);have:=hgq17;simp only at h;omega)
 have NEq18_0:Hid (g0≠gq18):=yh (by have h:=HRq11.out.lt (g0,(quad a1 b1 d1 f1),65) (by simp);have:=hgq18;simp only at h;omega)
 have NEq17_1:Hid ((g0+1)≠gq17):=yh (by have h:=HRq11.out.lt ((g0+1),(quad Z Z Z Z),65) (by simp);have:=hgq17;simp only at h;omega)
 have NEq18_1:Hid ((g0+1)≠gq18):=yh (by have h:=HRq11.out.lt ((g0+1),(quad Z Z Z Z),65) (by simp);have:=hgq18;simp only at h;omega)
 have NEq17_2:Hid (gq6≠gq17):=yh (by have h:=HRq11.out.lt (gq6,cq2,63) (by simp);have:=hgq17;simp only at h;omega)
 have NEq18_2:Hid (gq6≠gq18):=yh (by have h:=HRq11.out.lt (gq6,cq2,63) (by simp);have:=hgq18;simp only at h;omega)
 have NEq17_3:Hid (gq7≠gq17):=yh (by have h:=HRq11.out.lt (gq7,cq4,63) (by simp);have:=hgq17;simp only at h;omega)
 have NEq18_3:Hid (gq7≠gq18):=yh (by have h:=HRq11.out.lt (gq7,cq4,63) (by simp);have:=hgq18;simp only at h;omega)
 have NEq17_4:Hid (gq11≠gq17):=yh (by have h:=HRq11.out.lt (gq11,cq10,63) (by simp);have:=hgq17;simp only at h;omega)
 have NEq18_4:Hid (gq11≠gq18):=yh (by have h:=HRq11.out.lt (gq11,cq10,63) (by simp);have:=hgq18;simp only at h;omega)
 have NEq18_5:Hid (gq17≠gq18):=yh hneq16
 have HGq17:=yh (Nat.le_trans HBq11.out.size hgq17)
 have HGq18:=yh (Nat.le_trans HBq11.out.size hgq18)
 obtain ⟨Wq16,hWq16⟩:∃ W,((Xq16.setRow gq17 cq13).setRow gq18 cq15)=W:=⟨_,rfl⟩
 rw [hWq16] at HRq16 HBq16
 (try rw [hWq16])
 clear hWq16 haq16 hcq16 hdq16 heq16 hgq17 hgq18 hneq16 hbq16
 go_upto_region 4 with fail
 refine wp_region_noPanic ?_
 refine zai 8 8 63 Z (by kernel_rfl) (by kernel_rfl) ⟨by kernel_rfl,by kernel_rfl,hZ,fun _ _ _ h=>h⟩ (fun hA hS=>?_)
 refine' yD 0 hA hS ?_
 refine' yD 1 hA hS ?_ (hy:=fun W hSW=>zal rfl rfl (HRq16.out.below hSW).tail.tail.tail.tail.tail.tail.head Tryz.underlying63 rfl (C.base.info Ra1.out) pp_0)
 refine' yD 2 hA hS ?_
 refine' yD 3 hA hS ?_ (hy:=fun W hSW=>zal rfl rfl (HRq16.out.below hSW).tail.tail.tail.tail.tail.tail.head Tryz.underlying63 rfl (C.base.info Rb1.out) (pp_1 (fe5 C.base Ra1.out)))
 refine' yD 6 hA hS ?_ (hy:=fun W hSW=>zad rfl rfl (HRq16.out.below hSW).tail.head Tryz.underlying63 rfl (C.base.info Rq13.out))
 refine xE 4 hA hS (fun oq20 Xq20 hS K hK=>?_)
 go_simp
 obtain ⟨n19,Hn19,HLn19⟩:=ym (K:=PP) ((X1+Y1) % PP) (Nat.mod_lt _ (by decide))
 with_reducible refine ((C.add Ra1.out Rb1.out) _).mono ?_
 rintro e vq20 ⟨cq20,rfl,rq20,hbq20⟩
 rw [Hn19.out] at rq20
 have Rq20:=yh rq20
 clear rq20
 refine hK.out _ _ hbq20 (fun hS=>?_)
 clear hK K hbq20
 refine xE 5 hA hS (fun oq22 Xq22 hS K hK=>?_)
 go_simp
 obtain ⟨n21,Hn21,HLn21⟩:=ym (K:=PP) ((n19*n19) % PP) (Nat.mod_lt _ (by decide))
 with_reducible refine ((C.square Rq20.out) _).mono ?_
 rintro e vq22 ⟨cq22,rfl,rq22,hbq22⟩
 rw [Hn21.out] at rq22
 have Rq22:=yh rq22
 clear rq22
 refine hK.out _ _ hbq22 (fun hS=>?_)
 clear hK K hbq22
 refine xE 7 hA hS (fun oq24 Xq24 hS K hK=>?_)
 go_simp
 obtain ⟨n23,Hn23,HLn23⟩:=ym (K:=PP) ((n21+(PP-n12)) % PP) (Nat.mod_lt _ (by decide))
 with_reducible refine ((C.sub Rq22.out Rq13.out) _).mono ?_
 rintro e vq24 ⟨cq24,rfl,rq24,hbq24⟩
 rw [Hn23.out] at rq24
 have Rq24:=yh rq24
 clear rq24
 refine hK.out _ _ hbq24 (fun hS=>?_)
 clear hK K hbq24
 refine' zax 9 hA rfl (by kernel_rfl) (by kernel_rfl) (by kernel_rfl) hS (by kernel_rfl) rfl (by intro h;cases h) (C.base.info Rq24.out) (C.base.size RZZ.out Rq24.out) (C.base.one Rq24.out) ?_ ?_
 rotate_left 1
 ·intro g;simp only [List.set_cons_succ,List.set_cons_zero];rfl
 intro gq25 Wq25 hgq25 hbq25 hrowq25
 clear hA hS
 refine wpAnyH_done (by kernel_rfl) ?_ _
 refine NoPanic.normal ?_
 (try simp only [Act.put])
 have HRq25:Hid (RowsW Wq25 [(gq25,cq24,63),(gq18,cq15,63),(gq17,cq13,63),(gq11,cq10,63),(gq7,cq4,63),(gq6,cq2,63),((g0+1),(quad Z Z Z Z),65),(g0,(quad a1 b1 d1 f1),65)]):=yh ⟨hrowq25,HRq16.out.below hbq25⟩
 have HBq25:=yh (zaa HBq16.out hbq25)
 have NEq25_0:Hid (g0≠gq25):=yh (by have h:=HRq16.out.lt (g0,(quad a1 b1 d1 f1),65) (by simp);have:=hgq25;simp only at h;omega)
 have NEq25_1:Hid ((g0+1)≠gq25):=yh (by have h:=HRq16.out.lt ((g0+1),(quad Z Z Z Z),65) (by simp);have:=hgq25;simp only at h;omega)
 have NEq25_2:Hid (gq6≠gq25):=yh (by have h:=HRq16.out.lt (gq6,cq2,63) (by simp);have:=hgq25;simp only at h;omega)
 have NEq25_3:Hid (gq7≠gq25):=yh (by have h:=HRq16.out.lt (gq7,cq4,63) (by simp);have:=hgq25;simp only at h;omega)
 have NEq25_4:Hid (gq11≠gq25):=yh (by have h:=HRq16.out.lt (gq11,cq10,63) (by simp);have:=hgq25;simp only at h;omega)
 have NEq25_5:Hid (gq17≠gq25):=yh (by have h:=HRq16.out.lt (gq17,cq13,63) (by simp);have:=hgq25;simp only at h;omega)
 have NEq25_6:Hid (gq18≠gq25):=yh (by have h:=HRq16.out.lt (gq18,cq15,63) (by simp);have:=hgq25;simp only at h;omega)
 have HGq25:=yh (Nat.le_trans HBq16.out.size hgq25)
 clear hrowq25 hbq25 hgq25
 go_upto_region 5 with fail
 refine wp_region_noPanic ?_
 refine zah (S:=fun W=>Below Wq25.heap.size Wq25 W) 9 (by kernel_rfl) ⟨by kernel_rfl,by kernel_rfl,by kernel_rfl,by kernel_rfl⟩ (by exact (Below.refl _ _).drew) (fun hT inv hS=>?_)
 refine' yT 0 hT inv hS (fun inv=>?_) (hy:=fun W hSW=>zad rfl rfl (HRq25.out.below hSW).head Tryz.underlying63 rfl (C.base.info Rq24.out))
 refine' yT 1 hT inv hS (fun inv=>?_) (hy:=fun W hSW=>zad rfl rfl (HRq25.out.below hSW).tail.head Tryz.underlying63 rfl (C.base.info Rq15.out))
 refine' yT 2 hT inv hS (fun inv=>?_) (hy:=fun W hSW=>zad rfl rfl (HRq25.out.below hSW).tail.tail.head Tryz.underlying63 rfl (C.base.info Rq13.out))
 refine' yT 3 hT inv hS (fun inv=>?_) (hy:=fun W hSW=>zad rfl rfl (HRq25.out.below hSW).tail.tail.tail.head Tryz.underlying63 rfl (C.base.info Rq10.out))
 refine' yT 4 hT inv hS (fun inv=>?_) (hy:=fun W hSW=>zad rfl rfl (HRq25.out.below hSW).tail.tail.tail.head Tryz.underlying63 rfl (C.base.info Rq10.out))
 refine' yT 6 hT inv hS (fun inv=>?_) (hy:=fun W hSW=>zad rfl rfl (HRq25.out.below hSW).tail.head Tryz.underlying63 rfl (C.base.info Rq15.out))
 refine xT 5 inv (fun K hK=>?_)
 go_simp
 obtain ⟨n26,Hn26,HLn26⟩:=ym (K:=PP) ((n9+n9) % PP) (Nat.mod_lt _ (by decide))
 with_reducible refine ((C.add Rq10.out Rq10.out) _).mono ?_
 rintro e vq27 ⟨cq27,rfl,rq27,hbq27⟩
 rw [Hn26.out] at rq27
 have Rq27:=yh rq27
 clear rq27
 have kbq27:=zaa hS hbq27
 clear hS hbq27
 refine hK.out _ _ (by exact kbq27) (fun inv hS=>?_)
 clear hK K
 refine xT 7 inv (fun K hK=>?_)
 go_simp
 obtain ⟨n28,Hn28,HLn28⟩:=ym (K:=PP) ((n26+(PP-n14)) % PP) (Nat.mod_lt _ (by decide))
 with_reducible refine ((C.sub Rq27.out Rq15.out) _).mono ?_
 rintro e vq29 ⟨cq29,rfl,rq29,hbq29⟩
 rw [Hn28.out] at rq29
 have Rq29:=yh rq29
 clear rq29
 have kbq29:=zaa kbq27 hbq29
 clear hS hbq29
 refine hK.out _ _ (by exact kbq29) (fun inv hS=>?_)
 clear hK K
 refine xT 8 inv (fun K hK=>?_)
 go_simp
 obtain ⟨n30,Hn30,HLn30⟩:=ym (K:=PP) ((n23*n28) % PP) (Nat.mod_lt _ (by decide))
 obtain ⟨n31,Hn31,HLn31⟩:=ym (K:=PP) ((n14*n12) % PP) (Nat.mod_lt _ (by decide))
 obtain ⟨n32,Hn32,HLn32⟩:=ym (K:=PP) ((n28*n14) % PP) (Nat.mod_lt _ (by decide))
 obtain ⟨n33,Hn33,HLn33⟩:=ym (K:=PP) ((n23*n12) % PP) (Nat.mod_lt _ (by decide))
 have kq34:=fun W:World=>(ptratios_any C Rq24.out Rq15.out Rq13.out Rq29.out) W
 rw [Hn30.out,Hn31.out,Hn32.out,Hn33.out] at kq34
 have Kq34:=yh kq34
 clear kq34
 with_reducible refine (Kq34.out _).mono ?_
 rintro e vq34 ⟨aq34,bq34,dq34,fq34,rfl,hRaq34,hRbq34,hRdq34,hRfq34,hbq34⟩
 have Raq34:=yh hRaq34
 have Rbq34:=yh hRbq34
 have Rdq34:=yh hRdq34
 have Rfq34:=yh hRfq34
 clear hRaq34 hRbq34 hRdq34 hRfq34
 have kbq34:=zaa kbq29 hbq34
 clear hS hbq34
 refine hK.out _ _ (by exact kbq34) (fun inv hS=>?_)
 clear hK K
 refine zaD (by kernel_rfl) ?_
 simp only [List.drop_succ_cons,List.drop_zero]
 clear hS
 (try simp only [Act.put])
 have HRq35:=yh (HRq25.out.below kbq34)
 have HBq35:=yh (zaa HBq25.out kbq34)
 have lsq36:=HRq35.out.tail.tail.tail.tail.tail.tail.head
 have HRq36:Hid (RowsW (vq34.setRow (g0+1) (quad aq34 bq34 dq34 fq34)) [(gq25,cq24,63),(gq18,cq15,63),(gq17,cq13,63),(gq11,cq10,63),(gq7,cq4,63),(gq6,cq2,63),((g0+1),(quad aq34 bq34 dq34 fq34),65),(g0,(quad a1 b1 d1 f1),65)]):=yh ⟨(by rw [setRow_other _ _ _ _ (Ne.symm NEq25_1.out)];exact HRq35.out.head),(by rw [setRow_other _ _ _ _ (Ne.symm NEq18_1.out)];exact HRq35.out.tail.head),(by rw [setRow_other _ _ _ _ (Ne.symm NEq17_1.out)];exact HRq35.out.tail.tail.head),(by rw [setRow_other _ _ _ _ (Ne.symm NEq11_1.out)];exact HRq35.out.tail.tail.tail.head),(by rw [setRow_other _ _ _ _ (Ne.symm NEq7_1.out)];exact HRq35.out.tail.tail.tail.tail.head),(by rw [setRow_other _ _ _ _ (Ne.symm NEq6_1.out)];exact HRq35.out.tail.tail.tail.tail.tail.head),setRow_heap _ _ _ _ _ _ lsq36,(by rw [setRow_other _ _ _ _ (by omega)];exact HRq35.out.tail.tail.tail.tail.tail.tail.tail.head),trivial⟩
 have HBq36:=yh (zac (g:=(g0+1)) (cs:=(quad aq34 bq34 dq34 fq34)) HBq35.out (by have:=HG0.out;omega))
 go_wp2_with (refine yj (quad aq34 bq34 dq34 fq34) lsq36 (zat C.base Raq34.out Rbq34.out Rdq34.out Rfq34.out) ((zas C.base RZZ.out RZZ.out RZZ.out RZZ.out).trans (zas C.base Raq34.out Rbq34.out Rdq34.out Rfq34.out).symm) (pp_one C.base Raq34.out Rbq34.out Rdq34.out Rfq34.out) ?_)
 obtain ⟨Wq36,hWq36⟩:∃ W,vq34.setRow (g0+1) (quad aq34 bq34 dq34 fq34)=W:=⟨_,rfl⟩
 rw [hWq36] at HRq36 HBq36
 (try rw [hWq36])
 clear hWq36 lsq36
 refine NoPanic.normal ?_
 go_wp2_with fail
 have HPD:Pq n30 n31 n32 n33 (padd p1 p1):=by
  rw [← Hn30.out,← Hn31.out,← Hn32.out,← Hn33.out]
  exact pq_dbl HP1.out Hn1.out Hn3.out Hn9.out Hn12.out Hn14.out Hn19.out Hn21.out Hn23.out Hn26.out Hn28.out
 (try simp only [Exit.inBlock,Exit.then])
 refine bodyPost_ret (results_cell_row rfl _ _ (g0+1) _ (quad aq34 bq34 dq34 fq34) _ _ rfl HRq36.out.tail.tail.tail.tail.tail.tail.head Tryz.underlying65 rfl (zat C.base Raq34.out Rbq34.out Rdq34.out Rfq34.out)) rfl ?_
 exact ⟨_,rfl,⟨_,_,_,_,_,_,_,_,rfl,Raq34.out,Rbq34.out,Rdq34.out,Rfq34.out,HPD⟩,HBq36.out⟩
theorem ptadd_any {R:Array Value→Nat→Prop} (C:FeC R) {a1 b1 d1 f1:Array Value} {X1 Y1 Z1 T1:Nat} {p1:PtD} (ha1:R a1 X1) (hb1:R b1 Y1) (hd1:R d1 Z1) (hf1:R f1 T1) (hP1:Pq X1 Y1 Z1 T1 p1) {a2 b2 d2 f2:Array Value} {X2 Y2 Z2 T2:Nat} {p2:PtD} (ha2:R a2 X2) (hb2:R b2 Y2) (hd2:R d2 Z2) (hf2:R f2 T2) (hP2:Pq X2 Y2 Z2 T2 p2) (w:World):Calls Tryz.prog 131 #[.agg (quad a1 b1 d1 f1),.agg (quad a2 b2 d2 f2)] w (RetPt (ptRof R) w (padd p1 p2)):=by
 have Ra1:=yh ha1
 have Rb1:=yh hb1
 have Rd1:=yh hd1
 have Rf1:=yh hf1
 clear ha1 hb1 hd1 hf1
 have LX1:Hid (X1<PP):=yh (C.base.lt Ra1.out)
 have LY1:Hid (Y1<PP):=yh (C.base.lt Rb1.out)
 have LZ1:Hid (Z1<PP):=yh (C.base.lt Rd1.out)
 have LT1:Hid (T1<PP):=yh (C.base.lt Rf1.out)
 have HP1:=yh hP1
 clear hP1
 have Ra2:=yh ha2
 have Rb2:=yh hb2
 have Rd2:=yh hd2
 have Rf2:=yh hf2
 clear ha2 hb2 hd2 hf2
 have LX2:Hid (X2<PP):=yh (C.base.lt Ra2.out)
 have LY2:Hid (Y2<PP):=yh (C.base.lt Rb2.out)
 have LZ2:Hid (Z2<PP):=yh (C.base.lt Rd2.out)
 have LT2:Hid (T2<PP):=yh (C.base.lt Rf2.out)
 have HP2:=yh hP2
 clear hP2
 obtain ⟨Z,hZ,rZ⟩:=C.base.zero
 have RZZ:=yh rZ
 have hzP:=zp_of hZ
 have hz32:=zaq
 clear rZ
 have HR0:=yh ((((RowsW.nil w).box (quad a1 b1 d1 f1) 65).box (quad a2 b2 d2 f2) 65).box (quad Z Z Z Z) 65)
 have HB0:=yh (zae (zae (zae (Below.refl w.heap.size w) (quad a1 b1 d1 f1) 65) (quad a2 b2 d2 f2) 65) (quad Z Z Z Z) 65)
 rw [World.size_alloc] at HR0
 rw [World.size_alloc] at HR0
 go_enter Tryz.func131,Tryz.ntmps131
 go_upto_region 1 with fail
 obtain ⟨W0,hW0⟩:∃ W,(((w.alloc (.cells (quad a1 b1 d1 f1) 65)).alloc (.cells (quad a2 b2 d2 f2) 65)).alloc (.cells (quad Z Z Z Z) 65))=W:=⟨_,rfl⟩
 obtain ⟨g0,hg0⟩:∃ g,w.heap.size=g:=⟨_,rfl⟩
 rw [hW0] at HR0 HB0
 rw [hg0] at HR0
 rw [hW0,hg0]
 have HG0:=yh hg0
 clear hW0 hg0
 refine wp_region_noPanic ?_
 refine zah (S:=fun W=>Below W0.heap.size W0 W) 4 (by kernel_rfl) ⟨by kernel_rfl,by kernel_rfl,by kernel_rfl,by kernel_rfl⟩ (by exact (Below.refl _ _).drew) (fun hT inv hS=>?_)
 refine' yT 0 hT inv hS (fun inv=>?_) (hy:=fun W hSW=>zad rfl rfl (HR0.out.below hSW).tail.tail.head Tryz.underlying65 rfl (zat C.base Ra1.out Rb1.out Rd1.out Rf1.out))
 refine' yT 2 hT inv hS (fun inv=>?_) (hy:=fun W hSW=>zad rfl rfl (HR0.out.below hSW).tail.head Tryz.underlying65 rfl (zat C.base Ra2.out Rb2.out Rd2.out Rf2.out))
 refine xT 1 inv (fun K hK=>?_)
 go_simp
 have kq1:=fun W:World=>(ptfilled_any C Ra1.out Rb1.out Rd1.out Rf1.out HP1.out) W
 have Kq1:=yh kq1
 clear kq1
 with_reducible refine (Kq1.out _).mono ?_
 rintro e vq1 ⟨aq1,bq1,dq1,fq1,Xq1,Yq1,Zq1,Tq1,rfl,hRaq1,hRbq1,hRdq1,hRfq1,hCq1,hbq1⟩
 have Raq1:=yh hRaq1
 have Rbq1:=yh hRbq1
 have Rdq1:=yh hRdq1
 have Rfq1:=yh hRfq1
 clear hRaq1 hRbq1 hRdq1 hRfq1
 have HCq1:=yh hCq1
 clear hCq1
 have kbq1:=zaa hS hbq1
 clear hS hbq1
 refine hK.out _ _ (by exact kbq1) (fun inv hS=>?_)
 clear hK K
 refine xT 3 inv (fun K hK=>?_)
 go_simp
 have kq2:=fun W:World=>(ptfilled_any C Ra2.out Rb2.out Rd2.out Rf2.out HP2.out) W
 have Kq2:=yh kq2
 clear kq2
 with_reducible refine (Kq2.out _).mono ?_
 rintro e vq2 ⟨aq2,bq2,dq2,fq2,Xq2,Yq2,Zq2,Tq2,rfl,hRaq2,hRbq2,hRdq2,hRfq2,hCq2,hbq2⟩
 have Raq2:=yh hRaq2
 have Rbq2:=yh hRbq2
 have Rdq2:=yh hRdq2
 have Rfq2:=yh hRfq2
 clear hRaq2 hRbq2 hRdq2 hRfq2
 have HCq2:=yh hCq2
 clear hCq2
 have kbq2:=zaa kbq1 hbq2
 clear hS hbq2
 refine hK.out _ _ (by exact kbq2) (fun inv hS=>?_)
 clear hK K
 refine zaD (by kernel_rfl) ?_
 simp only [List.drop_succ_cons,List.drop_zero]
 clear hS
 (try simp only [Act.put])
 have HRq3:=yh (HR0.out.below kbq2)
 have HBq3:=yh (zaa HB0.out kbq2)
 have lsq4_0:=HRq3.out.tail.tail.head
 have HRq4_0:Hid (RowsW (vq2.setRow g0 (quad aq1 bq1 dq1 fq1)) [((g0+1+1),(quad Z Z Z Z),65),((g0+1),(quad a2 b2 d2 f2),65),(g0,(quad aq1 bq1 dq1 fq1),65)]):=yh ⟨(by rw [setRow_other _ _ _ _ (Ne.symm (by omega))];exact HRq3.out.head),(by rw [setRow_other _ _ _ _ (Ne.symm (by omega))];exact HRq3.out.tail.head),setRow_heap _ _ _ _ _ _ lsq4_0,trivial⟩
 have HBq4_0:=yh (zac (g:=g0) (cs:=(quad aq1 bq1 dq1 fq1)) HBq3.out (by have:=HG0.out;omega))
 have lsq4_1:=HRq4_0.out.tail.head
 have HRq4_1:Hid (RowsW ((vq2.setRow g0 (quad aq1 bq1 dq1 fq1)).setRow (g0+1) (quad aq2 bq2 dq2 fq2)) [((g0+1+1),(quad Z Z Z Z),65),((g0+1),(quad aq2 bq2 dq2 fq2),65),(g0,(quad aq1 bq1 dq1 fq1),65)]):=yh ⟨(by rw [setRow_other _ _ _ _ (Ne.symm (by omega))];exact HRq4_0.out.head),setRow_heap _ _ _ _ _ _ lsq4_1,(by rw [setRow_other _ _ _ _ (by omega)];exact HRq4_0.out.tail.tail.head),trivial⟩
 have HBq4_1:=yh (zac (g:=(g0+1)) (cs:=(quad aq2 bq2 dq2 fq2)) HBq4_0.out (by have:=HG0.out;omega))
 go_wp2_with (first
   | (refine yj (quad aq1 bq1 dq1 fq1) lsq4_0 (zat C.base Raq1.out Rbq1.out Rdq1.out Rfq1.out) ((zas C.base Ra1.out Rb1.out Rd1.out Rf1.out).trans (zas C.base Raq1.out Rbq1.out Rdq1.out Rfq1.out).symm) (pp_one C.base Raq1.out Rbq1.out Rdq1.out Rfq1.out) ?_)
   | (refine yj (quad aq2 bq2 dq2 fq2) lsq4_1 (zat C.base Raq2.out Rbq2.out Rdq2.out Rfq2.out) ((zas C.base Ra2.out Rb2.out Rd2.out Rf2.out).trans (zas C.base Raq2.out Rbq2.out Rdq2.out Rfq2.out).symm) (pp_one C.base Raq2.out Rbq2.out Rdq2.out Rfq2.out) ?_))
 obtain ⟨Wq4,hWq4⟩:∃ W,((vq2.setRow g0 (quad aq1 bq1 dq1 fq1)).setRow (g0+1) (quad aq2 bq2 dq2 fq2))=W:=⟨_,rfl⟩
 rw [hWq4] at HRq4_1 HBq4_1
 (try rw [hWq4])
 clear hWq4 lsq4_0 lsq4_1
 refine NoPanic.normal ?_
 go_upto_region 2 with fail
 refine wp_region_noPanic ?_
 refine zai 11 5 63 Z (by kernel_rfl) (by kernel_rfl) ⟨by kernel_rfl,by kernel_rfl,hZ,fun _ _ _ h=>h⟩ (fun hA hS=>?_)
 refine' yD 0 hA hS ?_
 refine' yD 1 hA hS ?_ (hy:=fun W hSW=>zal rfl rfl (HRq4_1.out.below hSW).tail.tail.head Tryz.underlying63 rfl (C.base.info Rbq1.out) (pp_1 (fe5 C.base Raq1.out)))
 refine' yD 2 hA hS ?_
 refine' yD 3 hA hS ?_ (hy:=fun W hSW=>zal rfl rfl (HRq4_1.out.below hSW).tail.tail.head Tryz.underlying63 rfl (C.base.info Raq1.out) pp_0)
 refine' yD 5 hA hS ?_
 refine' yD 6 hA hS ?_ (hy:=fun W hSW=>zal rfl rfl (HRq4_1.out.below hSW).tail.head Tryz.underlying63 rfl (C.base.info Rbq2.out) (pp_1 (fe5 C.base Raq2.out)))
 refine' yD 7 hA hS ?_
 refine' yD 8 hA hS ?_ (hy:=fun W hSW=>zal rfl rfl (HRq4_1.out.below hSW).tail.head Tryz.underlying63 rfl (C.base.info Raq2.out) pp_0)
 refine xE 4 hA hS (fun oq6 Xq6 hS K hK=>?_)
 go_simp
 obtain ⟨n5,Hn5,HLn5⟩:=ym (K:=PP) ((Yq1+(PP-Xq1)) % PP) (Nat.mod_lt _ (by decide))
 with_reducible refine ((C.sub Rbq1.out Raq1.out) _).mono ?_
 rintro e vq6 ⟨cq6,rfl,rq6,hbq6⟩
 rw [Hn5.out] at rq6
 have Rq6:=yh rq6
 clear rq6
 refine hK.out _ _ hbq6 (fun hS=>?_)
 clear hK K hbq6
 refine xE 9 hA hS (fun oq8 Xq8 hS K hK=>?_)
 go_simp
 obtain ⟨n7,Hn7,HLn7⟩:=ym (K:=PP) ((Yq2+(PP-Xq2)) % PP) (Nat.mod_lt _ (by decide))
 with_reducible refine ((C.sub Rbq2.out Raq2.out) _).mono ?_
 rintro e vq8 ⟨cq8,rfl,rq8,hbq8⟩
 rw [Hn7.out] at rq8
 have Rq8:=yh rq8
 clear rq8
 refine hK.out _ _ hbq8 (fun hS=>?_)
 clear hK K hbq8
 refine xE 10 hA hS (fun oq10 Xq10 hS K hK=>?_)
 go_simp
 obtain ⟨n9,Hn9,HLn9⟩:=ym (K:=PP) ((n5*n7) % PP) (Nat.mod_lt _ (by decide))
 with_reducible refine ((C.mul Rq6.out Rq8.out) _).mono ?_
 rintro e vq10 ⟨cq10,rfl,rq10,hbq10⟩
 rw [Hn9.out] at rq10
 have Rq10:=yh rq10
 clear rq10
 refine hK.out _ _ hbq10 (fun hS=>?_)
 clear hK K hbq10
 refine' zax 12 hA rfl (by kernel_rfl) (by kernel_rfl) (by kernel_rfl) hS (by kernel_rfl) rfl (by intro h;cases h) (C.base.info Rq10.out) (C.base.size RZZ.out Rq10.out) (C.base.one Rq10.out) ?_ ?_
 rotate_left 1
 ·intro g;simp only [List.set_cons_succ,List.set_cons_zero];rfl
 intro gq11 Wq11 hgq11 hbq11 hrowq11
 clear hA hS
 refine wpAnyH_done (by kernel_rfl) ?_ _
 refine NoPanic.normal ?_
 (try simp only [Act.put])
 have HRq11:Hid (RowsW Wq11 [(gq11,cq10,63),((g0+1+1),(quad Z Z Z Z),65),((g0+1),(quad aq2 bq2 dq2 fq2),65),(g0,(quad aq1 bq1 dq1 fq1),65)]):=yh ⟨hrowq11,HRq4_1.out.below hbq11⟩
 have HBq11:=yh (zaa HBq4_1.out hbq11)
 have NEq11_0:Hid (g0≠gq11):=yh (by have h:=HRq4_1.out.lt (g0,(quad aq1 bq1 dq1 fq1),65) (by simp);have:=hgq11;simp only at h;omega)
 have NEq11_1:Hid ((g0+1)≠gq11):=yh (by have h:=HRq4_1.out.lt ((g0+1),(quad aq2 bq2 dq2 fq2),65) (by simp);have:=hgq11;simp only at h;omega)
 have NEq11_2:Hid ((g0+1+1)≠gq11):=yh (by have h:=HRq4_1.out.lt ((g0+1+1),(quad Z Z Z Z),65) (by simp);have:=hgq11;simp only at h;omega)
 have HGq11:=yh (Nat.le_trans HBq4_1.out.size hgq11)
 clear hrowq11 hbq11 hgq11
 go_upto_region 3 with fail
 refine wp_region_noPanic ?_
 refine zai 11 6 63 Z (by kernel_rfl) (by kernel_rfl) ⟨by kernel_rfl,by kernel_rfl,hZ,fun _ _ _ h=>h⟩ (fun hA hS=>?_)
 refine' yD 0 hA hS ?_
 refine' yD 1 hA hS ?_ (hy:=fun W hSW=>zal rfl rfl (HRq11.out.below hSW).tail.tail.tail.head Tryz.underlying63 rfl (C.base.info Rbq1.out) (pp_1 (fe5 C.base Raq1.out)))
 refine' yD 2 hA hS ?_
 refine' yD 3 hA hS ?_ (hy:=fun W hSW=>zal rfl rfl (HRq11.out.below hSW).tail.tail.tail.head Tryz.underlying63 rfl (C.base.info Raq1.out) pp_0)
 refine' yD 5 hA hS ?_
 refine' yD 6 hA hS ?_ (hy:=fun W hSW=>zal rfl rfl (HRq11.out.below hSW).tail.tail.head Tryz.underlying63 rfl (C.base.info Rbq2.out) (pp_1 (fe5 C.base Raq2.out)))
 refine' yD 7 hA hS ?_
 refine' yD 8 hA hS ?_ (hy:=fun W hSW=>zal rfl rfl (HRq11.out.below hSW).tail.tail.head Tryz.underlying63 rfl (C.base.info Raq2.out) pp_0)
 refine xE 4 hA hS (fun oq13 Xq13 hS K hK=>?_)
 go_simp
 obtain ⟨n12,Hn12,HLn12⟩:=ym (K:=PP) ((Yq1+Xq1) % PP) (Nat.mod_lt _ (by decide))
 with_reducible refine ((C.add Rbq1.out Raq1.out) _).mono ?_
 rintro e vq13 ⟨cq13,rfl,rq13,hbq13⟩
 rw [Hn12.out] at rq13
 have Rq13:=yh rq13
 clear rq13
 refine hK.out _ _ hbq13 (fun hS=>?_)
 clear hK K hbq13
 refine xE 9 hA hS (fun oq15 Xq15 hS K hK=>?_)
 go_simp
 obtain ⟨n14,Hn14,HLn14⟩:=ym (K:=PP) ((Yq2+Xq2) % PP) (Nat.mod_lt _ (by decide))
 with_reducible refine ((C.add Rbq2.out Raq2.out) _).mono ?_
 rintro e vq15 ⟨cq15,rfl,rq15,hbq15⟩
 rw [Hn14.out] at rq15
 have Rq15:=yh rq15
 clear rq15
 refine hK.out _ _ hbq15 (fun hS=>?_)
 clear hK K hbq15
 refine xE 10 hA hS (fun oq17 Xq17 hS K hK=>?_)
 go_simp
 obtain ⟨n16,Hn16,HLn16⟩:=ym (K:=PP) ((n12*n14) % PP) (Nat.mod_lt _ (by decide))
 with_reducible refine ((C.mul Rq13.out Rq15.out) _).mono ?_
 rintro e vq17 ⟨cq17,rfl,rq17,hbq17⟩
 rw [Hn16.out] at rq17
 have Rq17:=yh rq17
 clear rq17
 refine hK.out _ _ hbq17 (fun hS=>?_)
 clear hK K hbq17
 refine' zax 12 hA rfl (by kernel_rfl) (by kernel_rfl) (by kernel_rfl) hS (by kernel_rfl) rfl (by intro h;cases h) (C.base.info Rq17.out) (C.base.size RZZ.out Rq17.out) (C.base.one Rq17.out) ?_ ?_
 rotate_left 1
 ·intro g;simp only [List.set_cons_succ,List.set_cons_zero];rfl
 intro gq18 Wq18 hgq18 hbq18 hrowq18
 clear hA hS
 refine wpAnyH_done (by kernel_rfl) ?_ _
 refine NoPanic.normal ?_
 (try simp only [Act.put])
 have HRq18:Hid (RowsW Wq18 [(gq18,cq17,63),(gq11,cq10,63),((g0+1+1),(quad Z Z Z Z),65),((g0+1),(quad aq2 bq2 dq2 fq2),65),(g0,(quad aq1 bq1 dq1 fq1),65)]):=yh ⟨hrowq18,HRq11.out.below hbq18⟩
 have HBq18:=yh (zaa HBq11.out hbq18)
 have NEq18_0:Hid (g0≠gq18):=yh (by have h:=HRq11.out.lt (g0,(quad aq1 bq1 dq1 fq1),65) (by simp);have:=hgq18;simp only at h;omega)
 have NEq18_1:Hid ((g0+1)≠gq18):=yh (by have h:=HRq11.out.lt ((g0+1),(quad aq2 bq2 dq2 fq2),65) (by simp);have:=hgq18;simp only at h;omega)
 have NEq18_2:Hid ((g0+1+1)≠gq18):=yh (by have h:=HRq11.out.lt ((g0+1+1),(quad Z Z Z Z),65) (by simp);have:=hgq18;simp only at h;omega)
 have NEq18_3:Hid (gq11≠gq18):=yh (by have h:=HRq11.out.lt (gq11,cq10,63) (by simp);have:=hgq18;simp only at h;omega)
 have HGq18:=yh (Nat.le_trans HBq11.out.size hgq18)
 clear hrowq18 hbq18 hgq18
 go_upto_region 4 with fail
 have l19:=HRq18.out.tail.tail.tail.tail.head
 have l20:=HRq18.out.tail.tail.tail.head
 go_wp2_with (first
   | (refine zaj (o:=⟨some 36,_,_,_,_,_⟩) rfl (.agg fq1) (zal rfl rfl l19 Tryz.underlying63 rfl (C.base.info Rfq1.out) (pp_3 (fe5 C.base Raq1.out) (fe5 C.base Rbq1.out) (fe5 C.base Rdq1.out))) ?_)
   | (refine zaj (o:=⟨some 38,_,_,_,_,_⟩) rfl (.agg fq2) (zal rfl rfl l20 Tryz.underlying63 rfl (C.base.info Rfq2.out) (pp_3 (fe5 C.base Raq2.out) (fe5 C.base Rbq2.out) (fe5 C.base Rdq2.out))) ?_))
 obtain ⟨n21,Hn21,HLn21⟩:=ym (K:=PP) ((Tq1*Tq2) % PP) (Nat.mod_lt _ (by decide))
 with_reducible refine ((C.mul Rfq1.out Rfq2.out) _).mono ?_
 rintro e vq22 ⟨cq22,rfl,rq22,hbq22⟩
 rw [Hn21.out] at rq22
 have Rq22:=yh rq22
 clear rq22
 have HRq22:=yh (HRq18.out.below hbq22)
 have HBq22:=yh (zaa HBq18.out hbq22)
 clear hbq22
 go_wp2_with fail
 with_reducible refine ((ptd_any C) _).mono ?_
 rintro e vq23 ⟨cq23,rfl,rq23,hbq23⟩
 have Rq23:=yh rq23
 clear rq23
 have HRq23:=yh (HRq22.out.below hbq23)
 have HBq23:=yh (zaa HBq22.out hbq23)
 clear hbq23
 go_wp2_with fail
 obtain ⟨n24,Hn24,HLn24⟩:=ym (K:=PP) ((n21*edN) % PP) (Nat.mod_lt _ (by decide))
 with_reducible refine ((C.mul Rq22.out Rq23.out) _).mono ?_
 rintro e vq25 ⟨cq25,rfl,rq25,hbq25⟩
 rw [Hn24.out] at rq25
 have Rq25:=yh rq25
 clear rq25
 have HRq25:=yh (HRq23.out.below hbq25)
 have HBq25:=yh (zaa HBq23.out hbq25)
 clear hbq25
 have h0q26:(vq25.alloc (.cells Z 63)).heap[vq25.heap.size]?=some (.cells Z 63 (0,0)):=heap_alloc_new _ _
 have HRq26:=yh (HRq25.out.new Z cq25 63)
 have HBq26:=yh (zau HBq25.out Z cq25 63)
 have HNq26:=yh HRq25.out.ne
 have HGq26:=yh HBq25.out.size
 go_upto_region 5 with (refine yj cq25 h0q26 (C.base.info Rq25.out) (C.base.size RZZ.out Rq25.out) (C.base.one Rq25.out) ?_)
 obtain ⟨Wq26,hWq26⟩:∃ W,(vq25.alloc (.cells Z 63)).setRow vq25.heap.size cq25=W:=⟨_,rfl⟩
 obtain ⟨gq26,hgq26⟩:∃ g,vq25.heap.size=g:=⟨_,rfl⟩
 rw [hWq26,hgq26] at HRq26
 rw [hWq26] at HBq26
 rw [hgq26] at HNq26 HGq26
 rw [hWq26,hgq26]
 clear hWq26 hgq26 h0q26
 have NEq26_0:Hid (g0≠gq26):=yh (HNq26.out (g0,(quad aq1 bq1 dq1 fq1),65) (by simp))
 have NEq26_1:Hid ((g0+1)≠gq26):=yh (HNq26.out ((g0+1),(quad aq2 bq2 dq2 fq2),65) (by simp))
 have NEq26_2:Hid ((g0+1+1)≠gq26):=yh (HNq26.out ((g0+1+1),(quad Z Z Z Z),65) (by simp))
 have NEq26_3:Hid (gq11≠gq26):=yh (HNq26.out (gq11,cq10,63) (by simp))
 have NEq26_4:Hid (gq18≠gq26):=yh (HNq26.out (gq18,cq17,63) (by simp))
 have l27:=HRq26.out.head
 have l28:=HRq26.out.head
 go_wp2_with (first
   | (refine yi l27 Tryz.underlying63 (C.base.info Rq25.out) ?_)
   | (refine yi l28 Tryz.underlying63 (C.base.info Rq25.out) ?_))
 obtain ⟨n29,Hn29,HLn29⟩:=ym (K:=PP) ((n24+n24) % PP) (Nat.mod_lt _ (by decide))
 with_reducible refine ((C.add Rq25.out Rq25.out) _).mono ?_
 rintro e vq30 ⟨cq30,rfl,rq30,hbq30⟩
 rw [Hn29.out] at rq30
 have Rq30:=yh rq30
 clear rq30
 have HRq30:=yh (HRq26.out.below hbq30)
 have HBq30:=yh (zaa HBq26.out hbq30)
 clear hbq30
 have lsq31:=HRq30.out.head
 have HRq31:Hid (RowsW (vq30.setRow gq26 cq30) [(gq26,cq30,63),(gq18,cq17,63),(gq11,cq10,63),((g0+1+1),(quad Z Z Z Z),65),((g0+1),(quad aq2 bq2 dq2 fq2),65),(g0,(quad aq1 bq1 dq1 fq1),65)]):=yh ⟨setRow_heap _ _ _ _ _ _ lsq31,(by rw [setRow_other _ _ _ _ NEq26_4.out];exact HRq30.out.tail.head),(by rw [setRow_other _ _ _ _ NEq26_3.out];exact HRq30.out.tail.tail.head),(by rw [setRow_other _ _ _ _ NEq26_2.out];exact HRq30.out.tail.tail.tail.head),(by rw [setRow_other _ _ _ _ NEq26_1.out];exact HRq30.out.tail.tail.tail.tail.head),(by rw [setRow_other _ _ _ _ NEq26_0.out];exact HRq30.out.tail.tail.tail.tail.tail.head),trivial⟩
 have HBq31:=yh (zac (g:=gq26) (cs:=cq30) HBq30.out HGq26.out)
 go_upto_region 6 with (refine yj cq30 lsq31 (C.base.info Rq30.out) (C.base.size Rq25.out Rq30.out) (C.base.one Rq30.out) ?_)
 obtain ⟨Wq31,hWq31⟩:∃ W,vq30.setRow gq26 cq30=W:=⟨_,rfl⟩
 rw [hWq31] at HRq31 HBq31
 (try rw [hWq31])
 clear hWq31 lsq31
 have l32:=HRq31.out.tail.tail.tail.tail.tail.head
 have l33:=HRq31.out.tail.tail.tail.tail.head
 go_wp2_with (first
   | (refine zaj (o:=⟨some 46,_,_,_,_,_⟩) rfl (.agg dq1) (zal rfl rfl l32 Tryz.underlying63 rfl (C.base.info Rdq1.out) (pp_2 (fe5 C.base Raq1.out) (fe5 C.base Rbq1.out))) ?_)
   | (refine zaj (o:=⟨some 48,_,_,_,_,_⟩) rfl (.agg dq2) (zal rfl rfl l33 Tryz.underlying63 rfl (C.base.info Rdq2.out) (pp_2 (fe5 C.base Raq2.out) (fe5 C.base Rbq2.out))) ?_))
 obtain ⟨n34,Hn34,HLn34⟩:=ym (K:=PP) ((Zq1*Zq2) % PP) (Nat.mod_lt _ (by decide))
 with_reducible refine ((C.mul Rdq1.out Rdq2.out) _).mono ?_
 rintro e vq35 ⟨cq35,rfl,rq35,hbq35⟩
 rw [Hn34.out] at rq35
 have Rq35:=yh rq35
 clear rq35
 have HRq35:=yh (HRq31.out.below hbq35)
 have HBq35:=yh (zaa HBq31.out hbq35)
 clear hbq35
 have h0q36:(vq35.alloc (.cells Z 63)).heap[vq35.heap.size]?=some (.cells Z 63 (0,0)):=heap_alloc_new _ _
 have HRq36:=yh (HRq35.out.new Z cq35 63)
 have HBq36:=yh (zau HBq35.out Z cq35 63)
 have HNq36:=yh HRq35.out.ne
 have HGq36:=yh HBq35.out.size
 go_upto_region 7 with (refine yj cq35 h0q36 (C.base.info Rq35.out) (C.base.size RZZ.out Rq35.out) (C.base.one Rq35.out) ?_)
 obtain ⟨Wq36,hWq36⟩:∃ W,(vq35.alloc (.cells Z 63)).setRow vq35.heap.size cq35=W:=⟨_,rfl⟩
 obtain ⟨gq36,hgq36⟩:∃ g,vq35.heap.size=g:=⟨_,rfl⟩
 rw [hWq36,hgq36] at HRq36
 rw [hWq36] at HBq36
 rw [hgq36] at HNq36 HGq36
 rw [hWq36,hgq36]
 clear hWq36 hgq36 h0q36
 have NEq36_0:Hid (g0≠gq36):=yh (HNq36.out (g0,(quad aq1 bq1 dq1 fq1),65) (by simp))
 have NEq36_1:Hid ((g0+1)≠gq36):=yh (HNq36.out ((g0+1),(quad aq2 bq2 dq2 fq2),65) (by simp))
 have NEq36_2:Hid ((g0+1+1)≠gq36):=yh (HNq36.out ((g0+1+1),(quad Z Z Z Z),65) (by simp))
 have NEq36_3:Hid (gq11≠gq36):=yh (HNq36.out (gq11,cq10,63) (by simp))
 have NEq36_4:Hid (gq18≠gq36):=yh (HNq36.out (gq18,cq17,63) (by simp))
 have NEq36_5:Hid (gq26≠gq36):=yh (HNq36.out (gq26,cq30,63) (by simp))
 have l37:=HRq36.out.head
 have l38:=HRq36.out.head
 go_wp2_with (first
   | (refine yi l37 Tryz.underlying63 (C.base.info Rq35.out) ?_)
   | (refine yi l38 Tryz.underlying63 (C.base.info Rq35.out) ?_))
 obtain ⟨n39,Hn39,HLn39⟩:=ym (K:=PP) ((n34+n34) % PP) (Nat.mod_lt _ (by decide))
 with_reducible refine ((C.add Rq35.out Rq35.out) _).mono ?_
 rintro e vq40 ⟨cq40,rfl,rq40,hbq40⟩
 rw [Hn39.out] at rq40
 have Rq40:=yh rq40
 clear rq40
 have HRq40:=yh (HRq36.out.below hbq40)
 have HBq40:=yh (zaa HBq36.out hbq40)
 clear hbq40
 have lsq41:=HRq40.out.head
 have HRq41:Hid (RowsW (vq40.setRow gq36 cq40) [(gq36,cq40,63),(gq26,cq30,63),(gq18,cq17,63),(gq11,cq10,63),((g0+1+1),(quad Z Z Z Z),65),((g0+1),(quad aq2 bq2 dq2 fq2),65),(g0,(quad aq1 bq1 dq1 fq1),65)]):=yh ⟨setRow_heap _ _ _ _ _ _ lsq41,(by rw [setRow_other _ _ _ _ NEq36_5.out];exact HRq40.out.tail.head),(by rw [setRow_other _ _ _ _ NEq36_4.out];exact HRq40.out.tail.tail.head),(by rw [setRow_other _ _ _ _ NEq36_3.out];exact HRq40.out.tail.tail.tail.head),(by rw [setRow_other _ _ _ _ NEq36_2.out];exact HRq40.out.tail.tail.tail.tail.head),(by rw [setRow_other _ _ _ _ NEq36_1.out];exact HRq40.out.tail.tail.tail.tail.tail.head),(by rw [setRow_other _ _ _ _ NEq36_0.out];exact HRq40.out.tail.tail.tail.tail.tail.tail.head),trivial⟩
 have HBq41:=yh (zac (g:=gq36) (cs:=cq40) HBq40.out HGq36.out)
 go_upto_region 8 with (refine yj cq40 lsq41 (C.base.info Rq40.out) (C.base.size Rq35.out Rq40.out) (C.base.one Rq40.out) ?_)
 obtain ⟨Wq41,hWq41⟩:∃ W,vq40.setRow gq36 cq40=W:=⟨_,rfl⟩
 rw [hWq41] at HRq41 HBq41
 (try rw [hWq41])
 clear hWq41 lsq41
 refine wp_region_noPanic ?_
 refine zah (S:=fun W=>Below Wq41.heap.size Wq41 W) 13 (by kernel_rfl) ⟨by kernel_rfl,by kernel_rfl,by kernel_rfl,by kernel_rfl⟩ (by exact (Below.refl _ _).drew) (fun hT inv hS=>?_)
 refine' yT 0 hT inv hS (fun inv=>?_) (hy:=fun W hSW=>zad rfl rfl (HRq41.out.below hSW).tail.tail.head Tryz.underlying63 rfl (C.base.info Rq17.out))
 refine' yT 1 hT inv hS (fun inv=>?_) (hy:=fun W hSW=>zad rfl rfl (HRq41.out.below hSW).tail.tail.tail.head Tryz.underlying63 rfl (C.base.info Rq10.out))
 refine' yT 3 hT inv hS (fun inv=>?_) (hy:=fun W hSW=>zad rfl rfl (HRq41.out.below hSW).head Tryz.underlying63 rfl (C.base.info Rq40.out))
 refine' yT 4 hT inv hS (fun inv=>?_) (hy:=fun W hSW=>zad rfl rfl (HRq41.out.below hSW).tail.head Tryz.underlying63 rfl (C.base.info Rq30.out))
 refine' yT 6 hT inv hS (fun inv=>?_) (hy:=fun W hSW=>zad rfl rfl (HRq41.out.below hSW).tail.tail.head Tryz.underlying63 rfl (C.base.info Rq17.out))
 refine' yT 7 hT inv hS (fun inv=>?_) (hy:=fun W hSW=>zad rfl rfl (HRq41.out.below hSW).tail.tail.tail.head Tryz.underlying63 rfl (C.base.info Rq10.out))
 refine' yT 9 hT inv hS (fun inv=>?_) (hy:=fun W hSW=>zad rfl rfl (HRq41.out.below hSW).head Tryz.underlying63 rfl (C.base.info Rq40.out))
 refine' yT 10 hT inv hS (fun inv=>?_) (hy:=fun W hSW=>zad rfl rfl (HRq41.out.below hSW).tail.head Tryz.underlying63 rfl (C.base.info Rq30.out))
 refine xT 2 inv (fun K hK=>?_)
 go_simp
 obtain ⟨n42,Hn42,HLn42⟩:=ym (K:=PP) ((n16+(PP-n9)) % PP) (Nat.mod_lt _ (by decide))
 with_reducible refine ((C.sub Rq17.out Rq10.out) _).mono ?_
 rintro e vq43 ⟨cq43,rfl,rq43,hbq43⟩
 rw [Hn42.out] at rq43
 have Rq43:=yh rq43
 clear rq43
 have kbq43:=zaa hS hbq43
 clear hS hbq43
 refine hK.out _ _ (by exact kbq43) (fun inv hS=>?_)
 clear hK K
 refine xT 5 inv (fun K hK=>?_)
 go_simp
 obtain ⟨n44,Hn44,HLn44⟩:=ym (K:=PP) ((n39+n29) % PP) (Nat.mod_lt _ (by decide))
 with_reducible refine ((C.add Rq40.out Rq30.out) _).mono ?_
 rintro e vq45 ⟨cq45,rfl,rq45,hbq45⟩
 rw [Hn44.out] at rq45
 have Rq45:=yh rq45
 clear rq45
 have kbq45:=zaa kbq43 hbq45
 clear hS hbq45
 refine hK.out _ _ (by exact kbq45) (fun inv hS=>?_)
 clear hK K
 refine xT 8 inv (fun K hK=>?_)
 go_simp
 obtain ⟨n46,Hn46,HLn46⟩:=ym (K:=PP) ((n16+n9) % PP) (Nat.mod_lt _ (by decide))
 with_reducible refine ((C.add Rq17.out Rq10.out) _).mono ?_
 rintro e vq47 ⟨cq47,rfl,rq47,hbq47⟩
 rw [Hn46.out] at rq47
 have Rq47:=yh rq47
 clear rq47
 have kbq47:=zaa kbq45 hbq47
 clear hS hbq47
 refine hK.out _ _ (by exact kbq47) (fun inv hS=>?_)
 clear hK K
 refine xT 11 inv (fun K hK=>?_)
 go_simp
 obtain ⟨n48,Hn48,HLn48⟩:=ym (K:=PP) ((n39+(PP-n29)) % PP) (Nat.mod_lt _ (by decide))
 with_reducible refine ((C.sub Rq40.out Rq30.out) _).mono ?_
 rintro e vq49 ⟨cq49,rfl,rq49,hbq49⟩
 rw [Hn48.out] at rq49
 have Rq49:=yh rq49
 clear rq49
 have kbq49:=zaa kbq47 hbq49
 clear hS hbq49
 refine hK.out _ _ (by exact kbq49) (fun inv hS=>?_)
 clear hK K
 refine xT 12 inv (fun K hK=>?_)
 go_simp
 obtain ⟨n50,Hn50,HLn50⟩:=ym (K:=PP) ((n42*n48) % PP) (Nat.mod_lt _ (by decide))
 obtain ⟨n51,Hn51,HLn51⟩:=ym (K:=PP) ((n44*n46) % PP) (Nat.mod_lt _ (by decide))
 obtain ⟨n52,Hn52,HLn52⟩:=ym (K:=PP) ((n48*n44) % PP) (Nat.mod_lt _ (by decide))
 obtain ⟨n53,Hn53,HLn53⟩:=ym (K:=PP) ((n42*n46) % PP) (Nat.mod_lt _ (by decide))
 have kq54:=fun W:World=>(ptratios_any C Rq43.out Rq45.out Rq47.out Rq49.out) W
 rw [Hn50.out,Hn51.out,Hn52.out,Hn53.out] at kq54
 have Kq54:=yh kq54
 clear kq54
 with_reducible refine (Kq54.out _).mono ?_
 rintro e vq54 ⟨aq54,bq54,dq54,fq54,rfl,hRaq54,hRbq54,hRdq54,hRfq54,hbq54⟩
 have Raq54:=yh hRaq54
 have Rbq54:=yh hRbq54
 have Rdq54:=yh hRdq54
 have Rfq54:=yh hRfq54
 clear hRaq54 hRbq54 hRdq54 hRfq54
 have kbq54:=zaa kbq49 hbq54
 clear hS hbq54
 refine hK.out _ _ (by exact kbq54) (fun inv hS=>?_)
 clear hK K
 refine zaD (by kernel_rfl) ?_
 simp only [List.drop_succ_cons,List.drop_zero]
 clear hS
 (try simp only [Act.put])
 have HRq55:=yh (HRq41.out.below kbq54)
 have HBq55:=yh (zaa HBq41.out kbq54)
 have lsq56:=HRq55.out.tail.tail.tail.tail.head
 have HRq56:Hid (RowsW (vq54.setRow (g0+1+1) (quad aq54 bq54 dq54 fq54)) [(gq36,cq40,63),(gq26,cq30,63),(gq18,cq17,63),(gq11,cq10,63),((g0+1+1),(quad aq54 bq54 dq54 fq54),65),((g0+1),(quad aq2 bq2 dq2 fq2),65),(g0,(quad aq1 bq1 dq1 fq1),65)]):=yh ⟨(by rw [setRow_other _ _ _ _ (Ne.symm NEq36_2.out)];exact HRq55.out.head),(by rw [setRow_other _ _ _ _ (Ne.symm NEq26_2.out)];exact HRq55.out.tail.head),(by rw [setRow_other _ _ _ _ (Ne.symm NEq18_2.out)];exact HRq55.out.tail.tail.head),(by rw [setRow_other _ _ _ _ (Ne.symm NEq11_2.out)];exact HRq55.out.tail.tail.tail.head),setRow_heap _ _ _ _ _ _ lsq56,(by rw [setRow_other _ _ _ _ (by omega)];exact HRq55.out.tail.tail.tail.tail.tail.head),(by rw [setRow_other _ _ _ _ (by omega)];exact HRq55.out.tail.tail.tail.tail.tail.tail.head),trivial⟩
 have HBq56:=yh (zac (g:=(g0+1+1)) (cs:=(quad aq54 bq54 dq54 fq54)) HBq55.out (by have:=HG0.out;omega))
 go_wp2_with (refine yj (quad aq54 bq54 dq54 fq54) lsq56 (zat C.base Raq54.out Rbq54.out Rdq54.out Rfq54.out) ((zas C.base RZZ.out RZZ.out RZZ.out RZZ.out).trans (zas C.base Raq54.out Rbq54.out Rdq54.out Rfq54.out).symm) (pp_one C.base Raq54.out Rbq54.out Rdq54.out Rfq54.out) ?_)
 obtain ⟨Wq56,hWq56⟩:∃ W,vq54.setRow (g0+1+1) (quad aq54 bq54 dq54 fq54)=W:=⟨_,rfl⟩
 rw [hWq56] at HRq56 HBq56
 (try rw [hWq56])
 clear hWq56 lsq56
 refine NoPanic.normal ?_
 go_wp2_with fail
 have HCO:Co n50 n51 n52 n53 (padd p1 p2):=by
  rw [← Hn50.out,← Hn51.out,← Hn52.out,← Hn53.out]
  exact co_add2 HCq1.out HCq2.out (by rw [Hn5.out,Hn7.out,Hn9.out]) (by rw [Hn12.out,Hn14.out,Hn16.out]) Hn21.out Hn24.out Hn29.out Hn34.out Hn39.out Hn42.out Hn48.out Hn44.out Hn46.out
 (try simp only [Exit.inBlock,Exit.then])
 refine bodyPost_ret (results_cell_row rfl _ _ (g0+1+1) _ (quad aq54 bq54 dq54 fq54) _ _ rfl HRq56.out.tail.tail.tail.tail.head Tryz.underlying65 rfl (zat C.base Raq54.out Rbq54.out Rdq54.out Rfq54.out)) rfl ?_
 exact ⟨_,rfl,⟨_,_,_,_,_,_,_,_,rfl,Raq54.out,Rbq54.out,Rdq54.out,Rfq54.out,.inl HCO⟩,HBq56.out⟩
theorem or128 (t:Nat) (h:t<128):bits .or .u8 (t:Int) 128=((t+128:Nat):Int):=by
 have:∀ t:Fin 128,bits .or .u8 ((t.val:Nat):Int) 128=((t.val+128:Nat):Int):=by decide +kernel
 exact this ⟨t,h⟩
theorem ptdecode_any {R:Array Value→Nat→Prop} (C:FeC R) {l:List UInt8} (hl:l.length=32) (w:World):Calls Tryz.prog 35 #[.agg (arrB l)] w (RetPtB (ptRof R) w (decP l) (decF l)):=by
 have HL:=yh hl
 clear hl
 obtain ⟨Z,hZ,rZ⟩:=C.base.zero
 have RZZ:=yh rZ
 have hzP:=zp_of hZ
 have hz32:=zaq
 clear rZ
 have HR0:=yh (((RowsW.nil w).box (arrB l) 22).box (quad Z Z Z Z) 65)
 have HB0:=yh (zae (zae (Below.refl w.heap.size w) (arrB l) 22) (quad Z Z Z Z) 65)
 rw [World.size_alloc] at HR0
 go_enter Tryz.func35,Tryz.ntmps35
 go_upto_region 1 with fail
 obtain ⟨W0,hW0⟩:∃ W,((w.alloc (.cells (arrB l) 22)).alloc (.cells (quad Z Z Z Z) 65))=W:=⟨_,rfl⟩
 obtain ⟨g0,hg0⟩:∃ g,w.heap.size=g:=⟨_,rfl⟩
 rw [hW0] at HR0 HB0
 rw [hg0] at HR0
 rw [hW0,hg0]
 have HG0:=yh hg0
 clear hW0 hg0
 cases hcan:canN l
 ·have HCA:=yh hcan
  clear hcan
  have l1:=HR0.out.tail.head
  go_wp2_with (refine yi l1 Tryz.underlying22 (zaf HL.out) ?_)
  have kq2:=fun W:World=>(C.can l HL.out) W
  rw [HCA.out] at kq2
  have Kq2:=yh kq2
  clear kq2
  with_reducible refine (Kq2.out _).mono ?_
  rintro e vq2 ⟨rfl,hbq2⟩
  have HRq2:=yh (HR0.out.below hbq2)
  have HBq2:=yh (zaa HB0.out hbq2)
  clear hbq2
  go_upto_region 2 with fail
  have lsq3:=HRq2.out.head
  have HRq3:Hid (RowsW (vq2.setRow (g0+1) (quad Z Z Z Z)) [((g0+1),(quad Z Z Z Z),65),(g0,(arrB l),22)]):=yh ⟨setRow_heap _ _ _ _ _ _ lsq3,(by rw [setRow_other _ _ _ _ (by omega)];exact HRq2.out.tail.head),trivial⟩
  have HBq3:=yh (zac (g:=(g0+1)) (cs:=(quad Z Z Z Z)) HBq2.out (by have:=HG0.out;omega))
  go_wp2_with (first
    | (refine zaj (o:=⟨some 12,_,_,_,_,_⟩) rfl (.agg (quad Z Z Z Z)) (run_buildF0 hzP rfl) ?_)
    | (refine yj (quad Z Z Z Z) lsq3 (zat C.base RZZ.out RZZ.out RZZ.out RZZ.out) ((zas C.base RZZ.out RZZ.out RZZ.out RZZ.out).trans (zas C.base RZZ.out RZZ.out RZZ.out RZZ.out).symm) (pp_one C.base RZZ.out RZZ.out RZZ.out RZZ.out) ?_))
  obtain ⟨Wq3,hWq3⟩:∃ W,vq2.setRow (g0+1) (quad Z Z Z Z)=W:=⟨_,rfl⟩
  rw [hWq3] at HRq3 HBq3
  (try rw [hWq3])
  clear hWq3 lsq3
  (try simp only [Exit.inBlock,Exit.then])
  refine bodyPost_ret (zaE rfl _ _ (g0+1) _ (quad Z Z Z Z) _ _ (.bool false) rfl rfl HRq3.out.head Tryz.underlying65 rfl (zat C.base RZZ.out RZZ.out RZZ.out RZZ.out)) rfl ?_
  have e2:decF l=false:=decF_can HCA.out
  have e1:=decP_no e2
  exact ⟨_,by rw [e2],by rw [e1];exact ⟨_,_,_,_,_,_,_,_,rfl,RZZ.out,RZZ.out,RZZ.out,RZZ.out,pq_zero⟩,HBq3.out⟩
 ·have HCA:=yh hcan
  clear hcan
  have l4:=HR0.out.tail.head
  go_wp2_with (refine yi l4 Tryz.underlying22 (zaf HL.out) ?_)
  have kq5:=fun W:World=>(C.can l HL.out) W
  rw [HCA.out] at kq5
  have Kq5:=yh kq5
  clear kq5
  with_reducible refine (Kq5.out _).mono ?_
  rintro e vq5 ⟨rfl,hbq5⟩
  have HRq5:=yh (HR0.out.below hbq5)
  have HBq5:=yh (zaa HB0.out hbq5)
  clear hbq5
  go_upto_region 3 with fail
  have l6:=HRq5.out.tail.head
  go_wp2_with (refine yi l6 Tryz.underlying22 (zaf HL.out) ?_)
  obtain ⟨n7,Hn7,HLn7⟩:=ym (K:=PP) (feN l) (Nat.mod_lt _ (by decide))
  with_reducible refine ((C.from_ l HL.out) _).mono ?_
  rintro e vq8 ⟨cq8,rfl,rq8,hbq8⟩
  rw [Hn7.out] at rq8
  have Rq8:=yh rq8
  clear rq8
  have HRq8:=yh (HRq5.out.below hbq8)
  have HBq8:=yh (zaa HBq5.out hbq8)
  clear hbq8
  go_wp2_with fail
  have s15_1:∀ W:World,Calls Tryz.prog 78 #[.int .u64 1] W (RetFe R W 1):=fun W=>C.small 1 (by decide) W
  with_reducible refine (s15_1 _).mono ?_
  rintro e vq9 ⟨cq9,rfl,rq9,hbq9⟩
  have Rq9:=yh rq9
  clear rq9
  have HRq9:=yh (HRq8.out.below hbq9)
  have HBq9:=yh (zaa HBq8.out hbq9)
  clear hbq9
  have haq10:=heap_new2a vq9 Z Z 63 63
  have hbbq10:=heap_new2b vq9 Z Z cq8 63 63
  have HRq10:=yh (HRq9.out.new2 Z cq8 Z cq9 63 63)
  have HBq10:=yh (below_new2 HBq9.out Z cq8 Z cq9 63 63)
  have HNq10:=yh HRq9.out.ne
  have HGq10:=yh HBq9.out.size
  have HLq10_0:Hid (g0<vq9.heap.size):=yh (by have h:=HRq9.out.lt (g0,(arrB l),22) (by simp);exact h)
  have HLq10_1:Hid ((g0+1)<vq9.heap.size):=yh (by have h:=HRq9.out.lt ((g0+1),(quad Z Z Z Z),65) (by simp);exact h)
  go_upto_region 4 with (first
    | (refine yj cq8 haq10 (C.base.info Rq8.out) (C.base.size RZZ.out Rq8.out) (C.base.one Rq8.out) ?_)
    | (refine yj cq9 hbbq10 (C.base.info Rq9.out) (C.base.size RZZ.out Rq9.out) (C.base.one Rq9.out) ?_))
  obtain ⟨Wq10,hWq10⟩:∃ W,(((vq9.alloc (.cells Z 63)).alloc (.cells Z 63)).setRow vq9.heap.size cq8).setRow (vq9.heap.size+1) cq9=W:=⟨_,rfl⟩
  obtain ⟨gq11,hgq11⟩:∃ g,vq9.heap.size=g:=⟨_,rfl⟩
  obtain ⟨gq12,hgq12⟩:∃ g,gq11+1=g:=⟨_,rfl⟩
  rw [hWq10,hgq11,hgq12] at HRq10
  rw [hWq10] at HBq10
  rw [hgq11] at HGq10 HNq10 HLq10_0 HLq10_1
  rw [hWq10,hgq11,hgq12]
  have NEq11_0:Hid (g0≠gq11):=yh (by have:=HLq10_0.out;omega)
  have NEq12_0:Hid (g0≠gq12):=yh (by have:=HLq10_0.out;omega)
  have NEq11_1:Hid ((g0+1)≠gq11):=yh (by have:=HLq10_1.out;omega)
  have NEq12_1:Hid ((g0+1)≠gq12):=yh (by have:=HLq10_1.out;omega)
  have NEq12_2:Hid (gq11≠gq12):=yh (by omega)
  have HGq11:Hid (w.heap.size≤gq11):=yh HGq10.out
  have HGq12:Hid (w.heap.size≤gq12):=yh (by have:=HGq10.out;omega)
  clear hWq10 hgq11 hgq12 haq10 hbbq10 HNq10 HGq10 HLq10_0 HLq10_1
  have l13:=HRq10.out.tail.head
  go_wp2_with (refine yi l13 Tryz.underlying63 (C.base.info Rq8.out) ?_)
  obtain ⟨n14,Hn14,HLn14⟩:=ym (K:=PP) ((n7*n7) % PP) (Nat.mod_lt _ (by decide))
  with_reducible refine ((C.square Rq8.out) _).mono ?_
  rintro e vq15 ⟨cq15,rfl,rq15,hbq15⟩
  rw [Hn14.out] at rq15
  have Rq15:=yh rq15
  clear rq15
  have HRq15:=yh (HRq10.out.below hbq15)
  have HBq15:=yh (zaa HBq10.out hbq15)
  clear hbq15
  have h0q16:(vq15.alloc (.cells Z 63)).heap[vq15.heap.size]?=some (.cells Z 63 (0,0)):=heap_alloc_new _ _
  have HRq16:=yh (HRq15.out.new Z cq15 63)
  have HBq16:=yh (zau HBq15.out Z cq15 63)
  have HNq16:=yh HRq15.out.ne
  have HGq16:=yh HBq15.out.size
  go_upto_region 5 with (refine yj cq15 h0q16 (C.base.info Rq15.out) (C.base.size RZZ.out Rq15.out) (C.base.one Rq15.out) ?_)
  obtain ⟨Wq16,hWq16⟩:∃ W,(vq15.alloc (.cells Z 63)).setRow vq15.heap.size cq15=W:=⟨_,rfl⟩
  obtain ⟨gq16,hgq16⟩:∃ g,vq15.heap.size=g:=⟨_,rfl⟩
  rw [hWq16,hgq16] at HRq16
  rw [hWq16] at HBq16
  rw [hgq16] at HNq16 HGq16
  rw [hWq16,hgq16]
  clear hWq16 hgq16 h0q16
  have NEq16_0:Hid (g0≠gq16):=yh (HNq16.out (g0,(arrB l),22) (by simp))
  have NEq16_1:Hid ((g0+1)≠gq16):=yh (HNq16.out ((g0+1),(quad Z Z Z Z),65) (by simp))
  have NEq16_2:Hid (gq11≠gq16):=yh (HNq16.out (gq11,cq8,63) (by simp))
  have NEq16_3:Hid (gq12≠gq16):=yh (HNq16.out (gq12,cq9,63) (by simp))
  obtain ⟨n17,Hn17,HLn17⟩:=ym (K:=PP) ((n14+(PP-1)) % PP) (Nat.mod_lt _ (by decide))
  obtain ⟨n18,Hn18,HLn18⟩:=ym (K:=PP) ((edN*n14) % PP) (Nat.mod_lt _ (by decide))
  obtain ⟨n19,Hn19,HLn19⟩:=ym (K:=PP) ((n18+1) % PP) (Nat.mod_lt _ (by decide))
  obtain ⟨n20,Hn20,HLn20⟩:=ym (K:=PP) (ratN n17 n19) (ratN_lt _ _)
  have EU:Hid (upN (feN l)=n17):=yh (by unfold upN;rw [Hn7.out,Hn14.out,Hn17.out])
  have ED:Hid (dnN (feN l)=n19):=yh (by unfold dnN;rw [Hn7.out,Hn14.out,Hn18.out,Hn19.out])
  cases hfi:fineN n17 n19
  ·have HFI:=yh hfi
   clear hfi
   refine wp_region_noPanic ?_
   refine zai 12 7 63 Z (by kernel_rfl) (by kernel_rfl) ⟨by kernel_rfl,by kernel_rfl,hZ,fun _ _ _ h=>h⟩ (fun hA hS=>?_)
   refine' yD 0 hA hS ?_ (hy:=fun W hSW=>zad rfl rfl (HRq16.out.below hSW).head Tryz.underlying63 rfl (C.base.info Rq15.out))
   refine' yD 1 hA hS ?_ (hy:=fun W hSW=>zad rfl rfl (HRq16.out.below hSW).tail.head Tryz.underlying63 rfl (C.base.info Rq9.out))
   refine' yD 4 hA hS ?_ (hy:=fun W hSW=>zad rfl rfl (HRq16.out.below hSW).head Tryz.underlying63 rfl (C.base.info Rq15.out))
   refine' yD 6 hA hS ?_ (hy:=fun W hSW=>zad rfl rfl (HRq16.out.below hSW).tail.head Tryz.underlying63 rfl (C.base.info Rq9.out))
   refine xE 2 hA hS (fun oq21 Xq21 hS K hK=>?_)
   go_simp
   with_reducible refine ((C.sub Rq15.out Rq9.out) _).mono ?_
   rintro e vq21 ⟨cq21,rfl,rq21,hbq21⟩
   rw [Hn17.out] at rq21
   have Rq21:=yh rq21
   clear rq21
   refine hK.out _ _ hbq21 (fun hS=>?_)
   clear hK K hbq21
   refine xE 3 hA hS (fun oq22 Xq22 hS K hK=>?_)
   go_simp
   with_reducible refine ((ptd_any C) _).mono ?_
   rintro e vq22 ⟨cq22,rfl,rq22,hbq22⟩
   have Rq22:=yh rq22
   clear rq22
   refine hK.out _ _ hbq22 (fun hS=>?_)
   clear hK K hbq22
   refine xE 5 hA hS (fun oq23 Xq23 hS K hK=>?_)
   go_simp
   with_reducible refine ((C.mul Rq22.out Rq15.out) _).mono ?_
   rintro e vq23 ⟨cq23,rfl,rq23,hbq23⟩
   rw [Hn18.out] at rq23
   have Rq23:=yh rq23
   clear rq23
   refine hK.out _ _ hbq23 (fun hS=>?_)
   clear hK K hbq23
   refine xE 7 hA hS (fun oq24 Xq24 hS K hK=>?_)
   go_simp
   with_reducible refine ((C.add Rq23.out Rq9.out) _).mono ?_
   rintro e vq24 ⟨cq24,rfl,rq24,hbq24⟩
   rw [Hn19.out] at rq24
   have Rq24:=yh rq24
   clear rq24
   refine hK.out _ _ hbq24 (fun hS=>?_)
   clear hK K hbq24
   refine xE 8 hA hS (fun oq26 Xq26 hS K hK=>?_)
   go_simp
   have Ht25:Hid (fineN n17 n19=false):=yh HFI.out
   have kq26:=fun W:World=>(pratio_any C.pow Rq21.out Rq24.out) W
   rw [Hn20.out,Ht25.out] at kq26
   have Kq26:=yh kq26
   clear kq26
   with_reducible refine (Kq26.out _).mono ?_
   rintro e vq26 ⟨cq26,rfl,rq26,hbq26⟩
   have Rq26:=yh rq26
   clear rq26
   refine hK.out _ _ hbq26 (fun hS=>?_)
   clear hK K hbq26
   refine' yD 9 hA hS ?_
   refine' yD 10 hA hS ?_
   refine' yD 11 hA hS ?_
   refine' zax 13 hA rfl (by kernel_rfl) (by kernel_rfl) (by kernel_rfl) hS (by kernel_rfl) rfl (by intro h;cases h) (C.base.info Rq26.out) (C.base.size RZZ.out Rq26.out) (C.base.one Rq26.out) ?_ ?_
   rotate_left 1
   ·intro g;simp only [List.set_cons_succ,List.set_cons_zero];rfl
   intro gq27 Wq27 hgq27 hbq27 hrowq27
   clear hA hS
   refine' take_at 14 rfl (by kernel_rfl) (by kernel_rfl) (by kernel_rfl) (fun _ _ _ h=>h) (by rfl) hbq27 ?_ ?_ ?_
   rotate_left 2
   ·intro W hSW;go_simp;try with_reducible rfl
   ·simp only [List.set_cons_succ,List.set_cons_zero];rfl
   refine wpAnyH_done (by kernel_rfl) ?_ _
   refine NoPanic.normal ?_
   (try simp only [Act.put])
   have HRq27:Hid (RowsW Wq27 [(gq27,cq26,63),(gq16,cq15,63),(gq12,cq9,63),(gq11,cq8,63),((g0+1),(quad Z Z Z Z),65),(g0,(arrB l),22)]):=yh ⟨hrowq27,HRq16.out.below hbq27⟩
   have HBq27:=yh (zaa HBq16.out hbq27)
   have NEq27_0:Hid (g0≠gq27):=yh (by have h:=HRq16.out.lt (g0,(arrB l),22) (by simp);have:=hgq27;simp only at h;omega)
   have NEq27_1:Hid ((g0+1)≠gq27):=yh (by have h:=HRq16.out.lt ((g0+1),(quad Z Z Z Z),65) (by simp);have:=hgq27;simp only at h;omega)
   have NEq27_2:Hid (gq11≠gq27):=yh (by have h:=HRq16.out.lt (gq11,cq8,63) (by simp);have:=hgq27;simp only at h;omega)
   have NEq27_3:Hid (gq12≠gq27):=yh (by have h:=HRq16.out.lt (gq12,cq9,63) (by simp);have:=hgq27;simp only at h;omega)
   have NEq27_4:Hid (gq16≠gq27):=yh (by have h:=HRq16.out.lt (gq16,cq15,63) (by simp);have:=hgq27;simp only at h;omega)
   have HGq27:=yh (Nat.le_trans HBq16.out.size hgq27)
   clear hrowq27 hbq27 hgq27
   go_upto_region 6 with fail
   go_upto_region 7 with fail
   have lsq28:=HRq27.out.tail.tail.tail.tail.head
   have HRq28:Hid (RowsW (Wq27.setRow (g0+1) (quad Z Z Z Z)) [(gq27,cq26,63),(gq16,cq15,63),(gq12,cq9,63),(gq11,cq8,63),((g0+1),(quad Z Z Z Z),65),(g0,(arrB l),22)]):=yh ⟨(by rw [setRow_other _ _ _ _ (Ne.symm NEq27_1.out)];exact HRq27.out.head),(by rw [setRow_other _ _ _ _ (Ne.symm NEq16_1.out)];exact HRq27.out.tail.head),(by rw [setRow_other _ _ _ _ (Ne.symm NEq12_1.out)];exact HRq27.out.tail.tail.head),(by rw [setRow_other _ _ _ _ (Ne.symm NEq11_1.out)];exact HRq27.out.tail.tail.tail.head),setRow_heap _ _ _ _ _ _ lsq28,(by rw [setRow_other _ _ _ _ (by omega)];exact HRq27.out.tail.tail.tail.tail.tail.head),trivial⟩
   have HBq28:=yh (zac (g:=(g0+1)) (cs:=(quad Z Z Z Z)) HBq27.out (by have:=HG0.out;omega))
   go_wp2_with (first
     | (refine zaj (o:=⟨some 32,_,_,_,_,_⟩) rfl (.agg (quad Z Z Z Z)) (run_buildF0 hzP rfl) ?_)
     | (refine yj (quad Z Z Z Z) lsq28 (zat C.base RZZ.out RZZ.out RZZ.out RZZ.out) ((zas C.base RZZ.out RZZ.out RZZ.out RZZ.out).trans (zas C.base RZZ.out RZZ.out RZZ.out RZZ.out).symm) (pp_one C.base RZZ.out RZZ.out RZZ.out RZZ.out) ?_))
   obtain ⟨Wq28,hWq28⟩:∃ W,Wq27.setRow (g0+1) (quad Z Z Z Z)=W:=⟨_,rfl⟩
   rw [hWq28] at HRq28 HBq28
   (try rw [hWq28])
   clear hWq28 lsq28
   (try simp only [Exit.inBlock,Exit.then])
   refine bodyPost_ret (zaE rfl _ _ (g0+1) _ (quad Z Z Z Z) _ _ (.bool false) rfl rfl HRq28.out.tail.tail.tail.tail.head Tryz.underlying65 rfl (zat C.base RZZ.out RZZ.out RZZ.out RZZ.out)) rfl ?_
   have e2:decF l=false:=decF_fine (by rw [EU.out,ED.out];exact HFI.out)
   have e1:=decP_no e2
   exact ⟨_,by rw [e2],by rw [e1];exact ⟨_,_,_,_,_,_,_,_,rfl,RZZ.out,RZZ.out,RZZ.out,RZZ.out,pq_zero⟩,HBq28.out⟩
  ·have HFI:=yh hfi
   clear hfi
   refine wp_region_noPanic ?_
   refine zai 12 7 63 Z (by kernel_rfl) (by kernel_rfl) ⟨by kernel_rfl,by kernel_rfl,hZ,fun _ _ _ h=>h⟩ (fun hA hS=>?_)
   refine' yD 0 hA hS ?_ (hy:=fun W hSW=>zad rfl rfl (HRq16.out.below hSW).head Tryz.underlying63 rfl (C.base.info Rq15.out))
   refine' yD 1 hA hS ?_ (hy:=fun W hSW=>zad rfl rfl (HRq16.out.below hSW).tail.head Tryz.underlying63 rfl (C.base.info Rq9.out))
   refine' yD 4 hA hS ?_ (hy:=fun W hSW=>zad rfl rfl (HRq16.out.below hSW).head Tryz.underlying63 rfl (C.base.info Rq15.out))
   refine' yD 6 hA hS ?_ (hy:=fun W hSW=>zad rfl rfl (HRq16.out.below hSW).tail.head Tryz.underlying63 rfl (C.base.info Rq9.out))
   refine xE 2 hA hS (fun oq29 Xq29 hS K hK=>?_)
   go_simp
   with_reducible refine ((C.sub Rq15.out Rq9.out) _).mono ?_
   rintro e vq29 ⟨cq29,rfl,rq29,hbq29⟩
   rw [Hn17.out] at rq29
   have Rq29:=yh rq29
   clear rq29
   refine hK.out _ _ hbq29 (fun hS=>?_)
   clear hK K hbq29
   refine xE 3 hA hS (fun oq30 Xq30 hS K hK=>?_)
   go_simp
   with_reducible refine ((ptd_any C) _).mono ?_
   rintro e vq30 ⟨cq30,rfl,rq30,hbq30⟩
   have Rq30:=yh rq30
   clear rq30
   refine hK.out _ _ hbq30 (fun hS=>?_)
   clear hK K hbq30
   refine xE 5 hA hS (fun oq31 Xq31 hS K hK=>?_)
   go_simp
   with_reducible refine ((C.mul Rq30.out Rq15.out) _).mono ?_
   rintro e vq31 ⟨cq31,rfl,rq31,hbq31⟩
   rw [Hn18.out] at rq31
   have Rq31:=yh rq31
   clear rq31
   refine hK.out _ _ hbq31 (fun hS=>?_)
   clear hK K hbq31
   refine xE 7 hA hS (fun oq32 Xq32 hS K hK=>?_)
   go_simp
   with_reducible refine ((C.add Rq31.out Rq9.out) _).mono ?_
   rintro e vq32 ⟨cq32,rfl,rq32,hbq32⟩
   rw [Hn19.out] at rq32
   have Rq32:=yh rq32
   clear rq32
   refine hK.out _ _ hbq32 (fun hS=>?_)
   clear hK K hbq32
   refine xE 8 hA hS (fun oq34 Xq34 hS K hK=>?_)
   go_simp
   have Ht33:Hid (fineN n17 n19=true):=yh HFI.out
   have kq34:=fun W:World=>(pratio_any C.pow Rq29.out Rq32.out) W
   rw [Hn20.out,Ht33.out] at kq34
   have Kq34:=yh kq34
   clear kq34
   with_reducible refine (Kq34.out _).mono ?_
   rintro e vq34 ⟨cq34,rfl,rq34,hbq34⟩
   have Rq34:=yh rq34
   clear rq34
   refine hK.out _ _ hbq34 (fun hS=>?_)
   clear hK K hbq34
   refine' yD 9 hA hS ?_
   refine' yD 10 hA hS ?_
   refine' yD 11 hA hS ?_
   refine' zax 13 hA rfl (by kernel_rfl) (by kernel_rfl) (by kernel_rfl) hS (by kernel_rfl) rfl (by intro h;cases h) (C.base.info Rq34.out) (C.base.size RZZ.out Rq34.out) (C.base.one Rq34.out) ?_ ?_
   rotate_left 1
   ·intro g;simp only [List.set_cons_succ,List.set_cons_zero];rfl
   intro gq35 Wq35 hgq35 hbq35 hrowq35
   clear hA hS
   refine' take_at 14 rfl (by kernel_rfl) (by kernel_rfl) (by kernel_rfl) (fun _ _ _ h=>h) (by rfl) hbq35 ?_ ?_ ?_
   rotate_left 2
   ·intro W hSW;go_simp;try with_reducible rfl
   ·simp only [List.set_cons_succ,List.set_cons_zero];rfl
   refine wpAnyH_done (by kernel_rfl) ?_ _
   refine NoPanic.normal ?_
   (try simp only [Act.put])
   have HRq35:Hid (RowsW Wq35 [(gq35,cq34,63),(gq16,cq15,63),(gq12,cq9,63),(gq11,cq8,63),((g0+1),(quad Z Z Z Z),65),(g0,(arrB l),22)]):=yh ⟨hrowq35,HRq16.out.below hbq35⟩
   have HBq35:=yh (zaa HBq16.out hbq35)
   have NEq35_0:Hid (g0≠gq35):=yh (by have h:=HRq16.out.lt (g0,(arrB l),22) (by simp);have:=hgq35;simp only at h;omega)
   have NEq35_1:Hid ((g0+1)≠gq35):=yh (by have h:=HRq16.out.lt ((g0+1),(quad Z Z Z Z),65) (by simp);have:=hgq35;simp only at h;omega)
   have NEq35_2:Hid (gq11≠gq35):=yh (by have h:=HRq16.out.lt (gq11,cq8,63) (by simp);have:=hgq35;simp only at h;omega)
   have NEq35_3:Hid (gq12≠gq35):=yh (by have h:=HRq16.out.lt (gq12,cq9,63) (by simp);have:=hgq35;simp only at h;omega)
   have NEq35_4:Hid (gq16≠gq35):=yh (by have h:=HRq16.out.lt (gq16,cq15,63) (by simp);have:=hgq35;simp only at h;omega)
   have HGq35:=yh (Nat.le_trans HBq16.out.size hgq35)
   clear hrowq35 hbq35 hgq35
   go_upto_region 6 with fail
   go_upto_region 8 with fail
   obtain ⟨t,ht⟩:∃ t,(l.getD 31 0).toNat=t:=⟨_,rfl⟩
   have htl:t<256:=by rw [← ht];exact (l.getD 31 0).toNat_lt
   have HS:Hid (decS l=decide (127<t)):=yh (by unfold decS;rw [ht])
   have cx:Wq35.cell? ⟨g0,31,none⟩=some (.int .u8 (t:Int)):=by rw [cell_of_row _ _ _ _ _ _ HRq35.out.tail.tail.tail.tail.tail.head,zaJ _ _ (by rw [HL.out];omega),ht]
   clear ht
   by_cases ho:127<t
   ·have HOD:Hid (decS l=true):=yh (by rw [HS.out];exact decide_eq_true ho)
    have t1:(t:Int)/128=1:=by omega
    clear ho HS
    go_upto_region 9 with fail
    clear cx t1
    by_cases hx0:n20=0
    ·have HX0:=yh hx0
     clear hx0
     have l36:=HRq35.out.head
     go_wp2_with (refine yi l36 Tryz.underlying63 (C.base.info Rq34.out) ?_)
     have kq37:=fun W:World=>(C.isZero Rq34.out) W
     rw [decide_eq_true (show n20=0 from HX0.out)] at kq37
     have Kq37:=yh kq37
     clear kq37
     with_reducible refine (Kq37.out _).mono ?_
     rintro e vq37 ⟨rfl,hbq37⟩
     have HRq37:=yh (HRq35.out.below hbq37)
     have HBq37:=yh (zaa HBq35.out hbq37)
     clear hbq37
     go_upto_region 10 with fail
     have lsq38:=HRq37.out.tail.tail.tail.tail.head
     have HRq38:Hid (RowsW (vq37.setRow (g0+1) (quad Z Z Z Z)) [(gq35,cq34,63),(gq16,cq15,63),(gq12,cq9,63),(gq11,cq8,63),((g0+1),(quad Z Z Z Z),65),(g0,(arrB l),22)]):=yh ⟨(by rw [setRow_other _ _ _ _ (Ne.symm NEq35_1.out)];exact HRq37.out.head),(by rw [setRow_other _ _ _ _ (Ne.symm NEq16_1.out)];exact HRq37.out.tail.head),(by rw [setRow_other _ _ _ _ (Ne.symm NEq12_1.out)];exact HRq37.out.tail.tail.head),(by rw [setRow_other _ _ _ _ (Ne.symm NEq11_1.out)];exact HRq37.out.tail.tail.tail.head),setRow_heap _ _ _ _ _ _ lsq38,(by rw [setRow_other _ _ _ _ (by omega)];exact HRq37.out.tail.tail.tail.tail.tail.head),trivial⟩
     have HBq38:=yh (zac (g:=(g0+1)) (cs:=(quad Z Z Z Z)) HBq37.out (by have:=HG0.out;omega))
     go_wp2_with (first
       | (refine zaj (o:=⟨some 39,_,_,_,_,_⟩) rfl (.agg (quad Z Z Z Z)) (run_buildF0 hzP rfl) ?_)
       | (refine yj (quad Z Z Z Z) lsq38 (zat C.base RZZ.out RZZ.out RZZ.out RZZ.out) ((zas C.base RZZ.out RZZ.out RZZ.out RZZ.out).trans (zas C.base RZZ.out RZZ.out RZZ.out RZZ.out).symm) (pp_one C.base RZZ.out RZZ.out RZZ.out RZZ.out) ?_))
     obtain ⟨Wq38,hWq38⟩:∃ W,vq37.setRow (g0+1) (quad Z Z Z Z)=W:=⟨_,rfl⟩
     rw [hWq38] at HRq38 HBq38
     (try rw [hWq38])
     clear hWq38 lsq38
     (try simp only [Exit.inBlock,Exit.then])
     refine bodyPost_ret (zaE rfl _ _ (g0+1) _ (quad Z Z Z Z) _ _ (.bool false) rfl rfl HRq38.out.tail.tail.tail.tail.head Tryz.underlying65 rfl (zat C.base RZZ.out RZZ.out RZZ.out RZZ.out)) rfl ?_
     have e2:decF l=false:=decF_sign (by rw [(show ratN (upN (feN l)) (dnN (feN l))=n20 by rw [EU.out,ED.out,Hn20.out])];exact HX0.out) HOD.out
     have e1:=decP_no e2
     exact ⟨_,by rw [e2],by rw [e1];exact ⟨_,_,_,_,_,_,_,_,rfl,RZZ.out,RZZ.out,RZZ.out,RZZ.out,pq_zero⟩,HBq38.out⟩
    ·have HX0:=yh hx0
     clear hx0
     have l39:=HRq35.out.head
     go_wp2_with (refine yi l39 Tryz.underlying63 (C.base.info Rq34.out) ?_)
     have kq40:=fun W:World=>(C.isZero Rq34.out) W
     rw [decide_eq_false (show ¬ n20=0 from HX0.out)] at kq40
     have Kq40:=yh kq40
     clear kq40
     with_reducible refine (Kq40.out _).mono ?_
     rintro e vq40 ⟨rfl,hbq40⟩
     have HRq40:=yh (HRq35.out.below hbq40)
     have HBq40:=yh (zaa HBq35.out hbq40)
     clear hbq40
     go_upto_region 11 with fail
     have l41:=HRq40.out.head
     go_wp2_with (refine yi l41 Tryz.underlying63 (C.base.info Rq34.out) ?_)
     obtain ⟨n42,Hn42,HLn42⟩:=ym (K:=PP) ((PP-n20) % PP) (Nat.mod_lt _ (by decide))
     with_reducible refine ((C.neg Rq34.out) _).mono ?_
     rintro e vq43 ⟨cq43,rfl,rq43,hbq43⟩
     rw [Hn42.out] at rq43
     have Rq43:=yh rq43
     clear rq43
     have HRq43:=yh (HRq40.out.below hbq43)
     have HBq43:=yh (zaa HBq40.out hbq43)
     clear hbq43
     have lsq44:=HRq43.out.head
     have HRq44:Hid (RowsW (vq43.setRow gq35 cq43) [(gq35,cq43,63),(gq16,cq15,63),(gq12,cq9,63),(gq11,cq8,63),((g0+1),(quad Z Z Z Z),65),(g0,(arrB l),22)]):=yh ⟨setRow_heap _ _ _ _ _ _ lsq44,(by rw [setRow_other _ _ _ _ NEq35_4.out];exact HRq43.out.tail.head),(by rw [setRow_other _ _ _ _ NEq35_3.out];exact HRq43.out.tail.tail.head),(by rw [setRow_other _ _ _ _ NEq35_2.out];exact HRq43.out.tail.tail.tail.head),(by rw [setRow_other _ _ _ _ NEq35_1.out];exact HRq43.out.tail.tail.tail.tail.head),(by rw [setRow_other _ _ _ _ NEq35_0.out];exact HRq43.out.tail.tail.tail.tail.tail.head),trivial⟩
     have HBq44:=yh (zac (g:=gq35) (cs:=cq43) HBq43.out HGq35.out)
     go_upto_region 12 with (refine yj cq43 lsq44 (C.base.info Rq43.out) (C.base.size Rq34.out Rq43.out) (C.base.one Rq43.out) ?_)
     obtain ⟨Wq44,hWq44⟩:∃ W,vq43.setRow gq35 cq43=W:=⟨_,rfl⟩
     rw [hWq44] at HRq44 HBq44
     (try rw [hWq44])
     clear hWq44 lsq44
     have l45:=HRq44.out.head
     have l46:=HRq44.out.tail.tail.tail.head
     go_wp2_with (first
       | (refine yi l45 Tryz.underlying63 (C.base.info Rq43.out) ?_)
       | (refine yi l46 Tryz.underlying63 (C.base.info Rq8.out) ?_))
     obtain ⟨n47,Hn47,HLn47⟩:=ym (K:=PP) ((n42*n7) % PP) (Nat.mod_lt _ (by decide))
     have kq48:=fun W:World=>(ptof_any C Rq43.out Rq8.out) W
     rw [Hn47.out] at kq48
     have Kq48:=yh kq48
     clear kq48
     with_reducible refine (Kq48.out _).mono ?_
     rintro e vq48 ⟨aq48,bq48,dq48,fq48,rfl,hRaq48,hRbq48,hRdq48,hRfq48,hbq48⟩
     have Raq48:=yh hRaq48
     have Rbq48:=yh hRbq48
     have Rdq48:=yh hRdq48
     have Rfq48:=yh hRfq48
     clear hRaq48 hRbq48 hRdq48 hRfq48
     have HRq48:=yh (HRq44.out.below hbq48)
     have HBq48:=yh (zaa HBq44.out hbq48)
     clear hbq48
     have lsq49:=HRq48.out.tail.tail.tail.tail.head
     have HRq49:Hid (RowsW (vq48.setRow (g0+1) (quad aq48 bq48 dq48 fq48)) [(gq35,cq43,63),(gq16,cq15,63),(gq12,cq9,63),(gq11,cq8,63),((g0+1),(quad aq48 bq48 dq48 fq48),65),(g0,(arrB l),22)]):=yh ⟨(by rw [setRow_other _ _ _ _ (Ne.symm NEq35_1.out)];exact HRq48.out.head),(by rw [setRow_other _ _ _ _ (Ne.symm NEq16_1.out)];exact HRq48.out.tail.head),(by rw [setRow_other _ _ _ _ (Ne.symm NEq12_1.out)];exact HRq48.out.tail.tail.head),(by rw [setRow_other _ _ _ _ (Ne.symm NEq11_1.out)];exact HRq48.out.tail.tail.tail.head),setRow_heap _ _ _ _ _ _ lsq49,(by rw [setRow_other _ _ _ _ (by omega)];exact HRq48.out.tail.tail.tail.tail.tail.head),trivial⟩
     have HBq49:=yh (zac (g:=(g0+1)) (cs:=(quad aq48 bq48 dq48 fq48)) HBq48.out (by have:=HG0.out;omega))
     go_wp2_with (refine yj (quad aq48 bq48 dq48 fq48) lsq49 (zat C.base Raq48.out Rbq48.out Rdq48.out Rfq48.out) ((zas C.base RZZ.out RZZ.out RZZ.out RZZ.out).trans (zas C.base Raq48.out Rbq48.out Rdq48.out Rfq48.out).symm) (pp_one C.base Raq48.out Rbq48.out Rdq48.out Rfq48.out) ?_)
     obtain ⟨Wq49,hWq49⟩:∃ W,vq48.setRow (g0+1) (quad aq48 bq48 dq48 fq48)=W:=⟨_,rfl⟩
     rw [hWq49] at HRq49 HBq49
     (try rw [hWq49])
     clear hWq49 lsq49
     (try simp only [Exit.inBlock,Exit.then])
     refine bodyPost_ret (zaE rfl _ _ (g0+1) _ (quad aq48 bq48 dq48 fq48) _ _ (.bool true) rfl rfl HRq49.out.tail.tail.tail.tail.head Tryz.underlying65 rfl (zat C.base Raq48.out Rbq48.out Rdq48.out Rfq48.out)) rfl ?_
     have e2:decF l=true:=decF_of HCA.out (by rw [EU.out,ED.out];exact HFI.out) (by rw [(show ratN (upN (feN l)) (dnN (feN l))=n20 by rw [EU.out,ED.out,Hn20.out])];intro e;exact absurd e HX0.out)
     have ex:decX l=n42:=by unfold decX;rw [(show ratN (upN (feN l)) (dnN (feN l))=n20 by rw [EU.out,ED.out,Hn20.out]),HOD.out,← Hn42.out];rfl
     obtain ⟨ea,eb⟩:=decP_xy e2
     rw [ex] at ea
     rw [Hn7.out] at eb
     exact ⟨_,by rw [e2],⟨_,_,_,_,_,_,_,_,rfl,Raq48.out,Rbq48.out,Rdq48.out,Rfq48.out,.inl (by rw [← Hn47.out];exact co_of ea eb)⟩,HBq49.out⟩
   ·have HOD:Hid (decS l=false):=yh (by rw [HS.out];exact decide_eq_false ho)
    have t1:(t:Int)/128=0:=by omega
    clear ho HS
    go_upto_region 12 with fail
    clear cx t1
    have l50:=HRq35.out.head
    have l51:=HRq35.out.tail.tail.tail.head
    go_wp2_with (first
      | (refine yi l50 Tryz.underlying63 (C.base.info Rq34.out) ?_)
      | (refine yi l51 Tryz.underlying63 (C.base.info Rq8.out) ?_))
    obtain ⟨n52,Hn52,HLn52⟩:=ym (K:=PP) ((n20*n7) % PP) (Nat.mod_lt _ (by decide))
    have kq53:=fun W:World=>(ptof_any C Rq34.out Rq8.out) W
    rw [Hn52.out] at kq53
    have Kq53:=yh kq53
    clear kq53
    with_reducible refine (Kq53.out _).mono ?_
    rintro e vq53 ⟨aq53,bq53,dq53,fq53,rfl,hRaq53,hRbq53,hRdq53,hRfq53,hbq53⟩
    have Raq53:=yh hRaq53
    have Rbq53:=yh hRbq53
    have Rdq53:=yh hRdq53
    have Rfq53:=yh hRfq53
    clear hRaq53 hRbq53 hRdq53 hRfq53
    have HRq53:=yh (HRq35.out.below hbq53)
    have HBq53:=yh (zaa HBq35.out hbq53)
    clear hbq53
    have lsq54:=HRq53.out.tail.tail.tail.tail.head
    have HRq54:Hid (RowsW (vq53.setRow (g0+1) (quad aq53 bq53 dq53 fq53)) [(gq35,cq34,63),(gq16,cq15,63),(gq12,cq9,63),(gq11,cq8,63),((g0+1),(quad aq53 bq53 dq53 fq53),65),(g0,(arrB l),22)]):=yh ⟨(by rw [setRow_other _ _ _ _ (Ne.symm NEq35_1.out)];exact HRq53.out.head),(by rw [setRow_other _ _ _ _ (Ne.symm NEq16_1.out)];exact HRq53.out.tail.head),(by rw [setRow_other _ _ _ _ (Ne.symm NEq12_1.out)];exact HRq53.out.tail.tail.head),(by rw [setRow_other _ _ _ _ (Ne.symm NEq11_1.out)];exact HRq53.out.tail.tail.tail.head),setRow_heap _ _ _ _ _ _ lsq54,(by rw [setRow_other _ _ _ _ (by omega)];exact HRq53.out.tail.tail.tail.tail.tail.head),trivial⟩
    have HBq54:=yh (zac (g:=(g0+1)) (cs:=(quad aq53 bq53 dq53 fq53)) HBq53.out (by have:=HG0.out;omega))
    go_wp2_with (refine yj (quad aq53 bq53 dq53 fq53) lsq54 (zat C.base Raq53.out Rbq53.out Rdq53.out Rfq53.out) ((zas C.base RZZ.out RZZ.out RZZ.out RZZ.out).trans (zas C.base Raq53.out Rbq53.out Rdq53.out Rfq53.out).symm) (pp_one C.base Raq53.out Rbq53.out Rdq53.out Rfq53.out) ?_)
    obtain ⟨Wq54,hWq54⟩:∃ W,vq53.setRow (g0+1) (quad aq53 bq53 dq53 fq53)=W:=⟨_,rfl⟩
    rw [hWq54] at HRq54 HBq54
    (try rw [hWq54])
    clear hWq54 lsq54
    (try simp only [Exit.inBlock,Exit.then])
    refine bodyPost_ret (zaE rfl _ _ (g0+1) _ (quad aq53 bq53 dq53 fq53) _ _ (.bool true) rfl rfl HRq54.out.tail.tail.tail.tail.head Tryz.underlying65 rfl (zat C.base Raq53.out Rbq53.out Rdq53.out Rfq53.out)) rfl ?_
    have e2:decF l=true:=decF_of HCA.out (by rw [EU.out,ED.out];exact HFI.out) (by rw [(show ratN (upN (feN l)) (dnN (feN l))=n20 by rw [EU.out,ED.out,Hn20.out])];intro _;exact HOD.out)
    have ex:decX l=n20:=by unfold decX;rw [(show ratN (upN (feN l)) (dnN (feN l))=n20 by rw [EU.out,ED.out,Hn20.out]),HOD.out];rfl
    obtain ⟨ea,eb⟩:=decP_xy e2
    rw [ex] at ea
    rw [Hn7.out] at eb
    exact ⟨_,by rw [e2],⟨_,_,_,_,_,_,_,_,rfl,Raq53.out,Rbq53.out,Rdq53.out,Rfq53.out,.inl (by rw [← Hn52.out];exact co_of ea eb)⟩,HBq54.out⟩
theorem ptencode_any {R:Array Value→Nat→Prop} (C:FeC R) {a1 b1 d1 f1:Array Value} {X1 Y1 Z1 T1:Nat} {p1:PtD} (ha1:R a1 X1) (hb1:R b1 Y1) (hd1:R d1 Z1) (hf1:R f1 T1) (hP1:Pq X1 Y1 Z1 T1 p1) (w:World):Calls Tryz.prog 39 #[.agg (quad a1 b1 d1 f1)] w (RetV w (.agg (bytT (F25519.encN p1)))):=by
 have Ra1:=yh ha1
 have Rb1:=yh hb1
 have Rd1:=yh hd1
 have Rf1:=yh hf1
 clear ha1 hb1 hd1 hf1
 have LX1:Hid (X1<PP):=yh (C.base.lt Ra1.out)
 have LY1:Hid (Y1<PP):=yh (C.base.lt Rb1.out)
 have LZ1:Hid (Z1<PP):=yh (C.base.lt Rd1.out)
 have LT1:Hid (T1<PP):=yh (C.base.lt Rf1.out)
 have HP1:=yh hP1
 clear hP1
 obtain ⟨Z,hZ,rZ⟩:=C.base.zero
 have RZZ:=yh rZ
 have hzP:=zp_of hZ
 have hz32:=zaq
 clear rZ
 have HR0:=yh (((RowsW.nil w).box (quad a1 b1 d1 f1) 65).box zag 22)
 have HB0:=yh (zae (zae (Below.refl w.heap.size w) (quad a1 b1 d1 f1) 65) zag 22)
 rw [World.size_alloc] at HR0
 go_enter Tryz.func39,Tryz.ntmps39
 go_upto_region 1 with fail
 obtain ⟨W0,hW0⟩:∃ W,((w.alloc (.cells (quad a1 b1 d1 f1) 65)).alloc (.cells zag 22))=W:=⟨_,rfl⟩
 obtain ⟨g0,hg0⟩:∃ g,w.heap.size=g:=⟨_,rfl⟩
 rw [hW0] at HR0 HB0
 rw [hg0] at HR0
 rw [hW0,hg0]
 have HG0:=yh hg0
 clear hW0 hg0
 have l1:=HR0.out.tail.head
 go_wp2_with (refine yi l1 Tryz.underlying65 (zat C.base Ra1.out Rb1.out Rd1.out Rf1.out) ?_)
 have kq2:=fun W:World=>(ptfilled_any C Ra1.out Rb1.out Rd1.out Rf1.out HP1.out) W
 have Kq2:=yh kq2
 clear kq2
 with_reducible refine (Kq2.out _).mono ?_
 rintro e vq2 ⟨aq2,bq2,dq2,fq2,Xq2,Yq2,Zq2,Tq2,rfl,hRaq2,hRbq2,hRdq2,hRfq2,hCq2,hbq2⟩
 have Raq2:=yh hRaq2
 have Rbq2:=yh hRbq2
 have Rdq2:=yh hRdq2
 have Rfq2:=yh hRfq2
 clear hRaq2 hRbq2 hRdq2 hRfq2
 have HCq2:=yh hCq2
 clear hCq2
 have HRq2:=yh (HR0.out.below hbq2)
 have HBq2:=yh (zaa HB0.out hbq2)
 clear hbq2
 have lsq3:=HRq2.out.tail.head
 have HRq3:Hid (RowsW (vq2.setRow g0 (quad aq2 bq2 dq2 fq2)) [((g0+1),zag,22),(g0,(quad aq2 bq2 dq2 fq2),65)]):=yh ⟨(by rw [setRow_other _ _ _ _ (Ne.symm (by omega))];exact HRq2.out.head),setRow_heap _ _ _ _ _ _ lsq3,trivial⟩
 have HBq3:=yh (zac (g:=g0) (cs:=(quad aq2 bq2 dq2 fq2)) HBq2.out (by have:=HG0.out;omega))
 go_upto_region 2 with (refine yj (quad aq2 bq2 dq2 fq2) lsq3 (zat C.base Raq2.out Rbq2.out Rdq2.out Rfq2.out) ((zas C.base Ra1.out Rb1.out Rd1.out Rf1.out).trans (zas C.base Raq2.out Rbq2.out Rdq2.out Rfq2.out).symm) (pp_one C.base Raq2.out Rbq2.out Rdq2.out Rfq2.out) ?_)
 obtain ⟨Wq3,hWq3⟩:∃ W,vq2.setRow g0 (quad aq2 bq2 dq2 fq2)=W:=⟨_,rfl⟩
 rw [hWq3] at HRq3 HBq3
 (try rw [hWq3])
 clear hWq3 lsq3
 obtain ⟨CX,CY⟩:=co_enc HCq2.out
 have l4:=HRq3.out.tail.head
 go_wp2_with (refine zaj (o:=⟨some 8,_,_,_,_,_⟩) rfl (.agg dq2) (zal rfl rfl l4 Tryz.underlying63 rfl (C.base.info Rdq2.out) (pp_2 (fe5 C.base Raq2.out) (fe5 C.base Rbq2.out))) ?_)
 obtain ⟨n5,Hn5,HLn5⟩:=ym (K:=PP) (invN Zq2) (invN_lt _)
 with_reducible refine ((pinvert_any C.pow Rdq2.out) _).mono ?_
 rintro e vq6 ⟨cq6,rfl,rq6,hbq6⟩
 rw [Hn5.out] at rq6
 have Rq6:=yh rq6
 clear rq6
 have HRq6:=yh (HRq3.out.below hbq6)
 have HBq6:=yh (zaa HBq3.out hbq6)
 clear hbq6
 have h0q7:(vq6.alloc (.cells Z 63)).heap[vq6.heap.size]?=some (.cells Z 63 (0,0)):=heap_alloc_new _ _
 have HRq7:=yh (HRq6.out.new Z cq6 63)
 have HBq7:=yh (zau HBq6.out Z cq6 63)
 have HNq7:=yh HRq6.out.ne
 have HGq7:=yh HBq6.out.size
 go_upto_region 3 with (refine yj cq6 h0q7 (C.base.info Rq6.out) (C.base.size RZZ.out Rq6.out) (C.base.one Rq6.out) ?_)
 obtain ⟨Wq7,hWq7⟩:∃ W,(vq6.alloc (.cells Z 63)).setRow vq6.heap.size cq6=W:=⟨_,rfl⟩
 obtain ⟨gq7,hgq7⟩:∃ g,vq6.heap.size=g:=⟨_,rfl⟩
 rw [hWq7,hgq7] at HRq7
 rw [hWq7] at HBq7
 rw [hgq7] at HNq7 HGq7
 rw [hWq7,hgq7]
 clear hWq7 hgq7 h0q7
 have NEq7_0:Hid (g0≠gq7):=yh (HNq7.out (g0,(quad aq2 bq2 dq2 fq2),65) (by simp))
 have NEq7_1:Hid ((g0+1)≠gq7):=yh (HNq7.out ((g0+1),zag,22) (by simp))
 have l8:=HRq7.out.tail.tail.head
 have l9:=HRq7.out.head
 go_wp2_with (first
   | (refine zaj (o:=⟨some 11,_,_,_,_,_⟩) rfl (.agg bq2) (zal rfl rfl l8 Tryz.underlying63 rfl (C.base.info Rbq2.out) (pp_1 (fe5 C.base Raq2.out))) ?_)
   | (refine yi l9 Tryz.underlying63 (C.base.info Rq6.out) ?_))
 obtain ⟨n10,Hn10,HLn10⟩:=ym (K:=PP) ((Yq2*n5) % PP) (Nat.mod_lt _ (by decide))
 with_reducible refine ((C.mul Rbq2.out Rq6.out) _).mono ?_
 rintro e vq11 ⟨cq11,rfl,rq11,hbq11⟩
 rw [Hn10.out] at rq11
 have Rq11:=yh rq11
 clear rq11
 have HRq11:=yh (HRq7.out.below hbq11)
 have HBq11:=yh (zaa HBq7.out hbq11)
 clear hbq11
 go_wp2_with fail
 with_reducible refine ((C.bytes Rq11.out) _).mono ?_
 rintro e vq12 ⟨rfl,hbq12⟩
 have HRq12:=yh (HRq11.out.below hbq12)
 have HBq12:=yh (zaa HBq11.out hbq12)
 clear hbq12
 have h0q13:(vq12.alloc (.cells zag 22)).heap[vq12.heap.size]?=some (.cells zag 22 (0,0)):=heap_alloc_new _ _
 have HRq13:=yh (HRq12.out.new zag (bytT n10) 22)
 have HBq13:=yh (zau HBq12.out zag (bytT n10) 22)
 have HNq13:=yh HRq12.out.ne
 have HGq13:=yh HBq12.out.size
 go_upto_region 4 with (refine yj (bytT n10) h0q13 (zaI _) (zero32_byt _) (bytT_one _) ?_)
 obtain ⟨Wq13,hWq13⟩:∃ W,(vq12.alloc (.cells zag 22)).setRow vq12.heap.size (bytT n10)=W:=⟨_,rfl⟩
 obtain ⟨gq13,hgq13⟩:∃ g,vq12.heap.size=g:=⟨_,rfl⟩
 rw [hWq13,hgq13] at HRq13
 rw [hWq13] at HBq13
 rw [hgq13] at HNq13 HGq13
 rw [hWq13,hgq13]
 clear hWq13 hgq13 h0q13
 have NEq13_0:Hid (g0≠gq13):=yh (HNq13.out (g0,(quad aq2 bq2 dq2 fq2),65) (by simp))
 have NEq13_1:Hid ((g0+1)≠gq13):=yh (HNq13.out ((g0+1),zag,22) (by simp))
 have NEq13_2:Hid (gq7≠gq13):=yh (HNq13.out (gq7,cq6,63) (by simp))
 obtain ⟨n14,Hn14,HLn14⟩:=ym (K:=PP) ((Xq2*n5) % PP) (Nat.mod_lt _ (by decide))
 have HX:Hid (n14=p1.x.val):=yh (by rw [← Hn14.out,← Hn5.out];exact CX)
 have HY:Hid (n10=p1.y.val):=yh (by rw [← Hn10.out,← Hn5.out];exact CY)
 clear CX CY
 by_cases ho:n14 % 2=1
 ·have HO:=yh ho
  clear ho
  have l15:=HRq13.out.tail.tail.tail.head
  have l16:=HRq13.out.tail.head
  go_wp2_with (first
    | (refine zaj (o:=⟨some 16,_,_,_,_,_⟩) rfl (.agg aq2) (zal rfl rfl l15 Tryz.underlying63 rfl (C.base.info Raq2.out) pp_0) ?_)
    | (refine yi l16 Tryz.underlying63 (C.base.info Rq6.out) ?_))
  with_reducible refine ((C.mul Raq2.out Rq6.out) _).mono ?_
  rintro e vq17 ⟨cq17,rfl,rq17,hbq17⟩
  rw [Hn14.out] at rq17
  have Rq17:=yh rq17
  clear rq17
  have HRq17:=yh (HRq13.out.below hbq17)
  have HBq17:=yh (zaa HBq13.out hbq17)
  clear hbq17
  go_wp2_with fail
  have Ht18:Hid (decide (n14 % 2=1)=true):=yh (decide_eq_true HO.out)
  have kq19:=fun W:World=>(C.odd Rq17.out) W
  rw [Ht18.out] at kq19
  have Kq19:=yh kq19
  clear kq19
  with_reducible refine (Kq19.out _).mono ?_
  rintro e vq19 ⟨rfl,hbq19⟩
  have HRq19:=yh (HRq17.out.below hbq19)
  have HBq19:=yh (zaa HBq17.out hbq19)
  clear hbq19
  go_upto_region 5 with fail
  obtain ⟨t,ht⟩:∃ t,((leB 32 n10).getD 31 0).toNat=t:=⟨_,rfl⟩
  have htl:t<128:=by rw [← ht,leB_get 32 n10 31 (by omega)];have h:=HLn10.out;rw [P31];unfold PP at h;simp;omega
  have cx:vq19.cell? ⟨gq13,31,none⟩=some (.int .u8 (t:Int)):=by rw [cell_of_row _ _ _ _ _ _ HRq19.out.head,bytT_get _ _ (by omega),ht]
  have fx:=frozen_row HRq19.out.head 31
  have e128:(((leB 32 n10).getD 31 0+128).toNat:Int)=((t+128:Nat):Int):=by rw [UInt8.toNat_add,ht];simp;omega
  have hor:bits .or .u8 (t:Int) 128=((t+128:Nat):Int):=or128 t htl
  have hs:=HRq19.out.set HNq13.out 31 (.int .u8 (((leB 32 n10).getD 31 0+128).toNat:Int))
  rw [show bytT n10=arrB (leB 32 n10) from rfl,arrB_set,e128] at hs
  have hb9:=HBq19.out.setCell (p:=⟨gq13,31,none⟩) (by show w.heap.size≤gq13;exact HGq13.out) (.int .u8 ((t+128:Nat):Int))
  obtain ⟨t9,ht9⟩:∃ t9:Nat,t+128=t9:=⟨_,rfl⟩
  rw [ht9] at hs hb9 hor
  have HE9:Hid (arrB (leB 32 (F25519.encN p1))=arrB ((leB 32 n10).set 31 ((leB 32 n10).getD 31 0+128))):=yh (by rw [enc_bytes,if_pos (by rw [← HX.out];exact HO.out),← HY.out])
  have iA:(Tryz.prog.info? 22).map (·.size)=some (arrB ((leB 32 n10).set 31 ((leB 32 n10).getD 31 0+128))).size:=zaf (by rw [List.length_set,zav])
  have zA:zag.size=(arrB ((leB 32 n10).set 31 ((leB 32 n10).getD 31 0+128))).size:=zar (by rw [List.length_set,zav])
  have oA:=zap ((leB 32 n10).set 31 ((leB 32 n10).getD 31 0+128))
  generalize arrB ((leB 32 n10).set 31 ((leB 32 n10).getD 31 0+128))=A9 at *
  obtain ⟨W9,hW9⟩:∃ W9,vq19.setCell ⟨gq13,31,none⟩ (.int .u8 (t9:Int))=W9:=⟨_,rfl⟩
  rw [hW9] at hs hb9
  have HR9:=yh hs
  have HB9:=yh hb9
  have HW9:=yh hW9
  have h9:t9<256:=by omega
  clear hs hb9 hW9 ht e128 ht9
  go_upto_region 6 with fail
  rw [HW9.out]
  clear HW9 cx fx hor htl
  have l20:=HR9.out.head
  have lsq21:=HR9.out.tail.tail.head
  have HRq21:Hid (RowsW (W9.setRow (g0+1) A9) [(gq13,A9,22),(gq7,cq6,63),((g0+1),A9,22),(g0,(quad aq2 bq2 dq2 fq2),65)]):=yh ⟨(by rw [setRow_other _ _ _ _ (Ne.symm NEq13_1.out)];exact HR9.out.head),(by rw [setRow_other _ _ _ _ (Ne.symm NEq7_1.out)];exact HR9.out.tail.head),setRow_heap _ _ _ _ _ _ lsq21,(by rw [setRow_other _ _ _ _ (by omega)];exact HR9.out.tail.tail.tail.head),trivial⟩
  have HBq21:=yh (zac (g:=(g0+1)) (cs:=A9) HB9.out (by have:=HG0.out;omega))
  go_wp2_with (first
    | (refine yi l20 Tryz.underlying22 iA ?_)
    | (refine yj A9 lsq21 iA zA oA ?_))
  obtain ⟨Wq21,hWq21⟩:∃ W,W9.setRow (g0+1) A9=W:=⟨_,rfl⟩
  rw [hWq21] at HRq21 HBq21
  (try rw [hWq21])
  clear hWq21 lsq21
  (try simp only [Exit.inBlock,Exit.then])
  refine bodyPost_ret (results_cell_row rfl _ _ (g0+1) _ A9 _ _ rfl HRq21.out.tail.tail.head Tryz.underlying22 rfl iA) rfl ?_
  exact ⟨by rw [show bytT (F25519.encN p1)=A9 from HE9.out],HBq21.out⟩
 ·have HO:=yh ho
  clear ho
  have l22:=HRq13.out.tail.tail.tail.head
  have l23:=HRq13.out.tail.head
  go_wp2_with (first
    | (refine zaj (o:=⟨some 16,_,_,_,_,_⟩) rfl (.agg aq2) (zal rfl rfl l22 Tryz.underlying63 rfl (C.base.info Raq2.out) pp_0) ?_)
    | (refine yi l23 Tryz.underlying63 (C.base.info Rq6.out) ?_))
  with_reducible refine ((C.mul Raq2.out Rq6.out) _).mono ?_
  rintro e vq24 ⟨cq24,rfl,rq24,hbq24⟩
  rw [Hn14.out] at rq24
  have Rq24:=yh rq24
  clear rq24
  have HRq24:=yh (HRq13.out.below hbq24)
  have HBq24:=yh (zaa HBq13.out hbq24)
  clear hbq24
  go_wp2_with fail
  have Ht25:Hid (decide (n14 % 2=1)=false):=yh (decide_eq_false HO.out)
  have kq26:=fun W:World=>(C.odd Rq24.out) W
  rw [Ht25.out] at kq26
  have Kq26:=yh kq26
  clear kq26
  with_reducible refine (Kq26.out _).mono ?_
  rintro e vq26 ⟨rfl,hbq26⟩
  have HRq26:=yh (HRq24.out.below hbq26)
  have HBq26:=yh (zaa HBq24.out hbq26)
  clear hbq26
  go_upto_region 6 with fail
  have l27:=HRq26.out.head
  have lsq28:=HRq26.out.tail.tail.head
  have HRq28:Hid (RowsW (vq26.setRow (g0+1) (bytT n10)) [(gq13,(bytT n10),22),(gq7,cq6,63),((g0+1),(bytT n10),22),(g0,(quad aq2 bq2 dq2 fq2),65)]):=yh ⟨(by rw [setRow_other _ _ _ _ (Ne.symm NEq13_1.out)];exact HRq26.out.head),(by rw [setRow_other _ _ _ _ (Ne.symm NEq7_1.out)];exact HRq26.out.tail.head),setRow_heap _ _ _ _ _ _ lsq28,(by rw [setRow_other _ _ _ _ (by omega)];exact HRq26.out.tail.tail.tail.head),trivial⟩
  have HBq28:=yh (zac (g:=(g0+1)) (cs:=(bytT n10)) HBq26.out (by have:=HG0.out;omega))
  go_wp2_with (first
    | (refine yi l27 Tryz.underlying22 (zaI _) ?_)
    | (refine yj (bytT n10) lsq28 (zaI _) (zero32_byt _) (bytT_one _) ?_))
  obtain ⟨Wq28,hWq28⟩:∃ W,vq26.setRow (g0+1) (bytT n10)=W:=⟨_,rfl⟩
  rw [hWq28] at HRq28 HBq28
  (try rw [hWq28])
  clear hWq28 lsq28
  (try simp only [Exit.inBlock,Exit.then])
  refine bodyPost_ret (results_cell_row rfl _ _ (g0+1) _ (bytT n10) _ _ rfl HRq28.out.tail.tail.head Tryz.underlying22 rfl (zaI _)) rfl ?_
  exact ⟨by rw [show bytT (F25519.encN p1)=(bytT n10) from by { unfold bytT;rw [enc_bytes,if_neg (by rw [← HX.out];exact HO.out),← HY.out] }],HBq28.out⟩
abbrev ptR:Array Value→PtD→Prop:=ptRof feR
theorem ptB:PtB ptR where
 info:=fun {c p} h=>by obtain ⟨a,b,d,f,X,Y,Z,T,rfl,ha,hb,hd,hf,_⟩:=h;exact zat feC.base ha hb hd hf
 one:=fun {c p} h=>by obtain ⟨a,b,d,f,X,Y,Z,T,rfl,ha,hb,hd,hf,_⟩:=h;exact pp_one feC.base ha hb hd hf
 zero:=⟨_,zp_zero,fun {c p} h=>by obtain ⟨a,b,d,f,X,Y,Z,T,rfl,ha,hb,hd,hf,_⟩:=h;rw [zas feC.base ha hb hd hf];rfl⟩
theorem ptM:PtM ptR where
 base:=ptB
 zero:=fun W=>(ptzero_any feC W).mono (fun e w' h=>by
  obtain ⟨a,b,d,f,rfl,ha,hb,hd,hf,hw⟩:=h
  exact ⟨_,rfl,⟨_,_,_,_,_,_,_,_,rfl,ha,hb,hd,hf,.inl co_zero⟩,hw⟩)
 basep:=fun W=>ptbase_any feC W
 double:=fun {c p} h W=>by
  obtain ⟨a,b,d,f,X,Y,Z,T,rfl,ha,hb,hd,hf,hp⟩:=h
  exact ptdouble_any feC ha hb hd hf hp W
 add:=fun {c p c' p'} h k W=>by
  obtain ⟨a,b,d,f,X,Y,Z,T,rfl,ha,hb,hd,hf,hp⟩:=h
  obtain ⟨a',b',d',f',X',Y',Z',T',rfl,ha',hb',hd',hf',hp'⟩:=k
  exact ptadd_any feC ha hb hd hf hp ha' hb' hd' hf' hp' W
theorem ptR_dec:PtDecodeC ptR:=fun l hl W=>ptdecode_any feC hl W
theorem ptR_enc:PtEncodeC ptR:=fun {c p} h W=>by
 obtain ⟨a,b,d,f,X,Y,Z,T,rfl,ha,hb,hd,hf,hp⟩:=h
 exact ptencode_any feC ha hb hd hf hp W
theorem ptR_neg:PtNegC ptR:=fun {c p} h W=>by
 obtain ⟨a,b,d,f,X,Y,Z,T,rfl,ha,hb,hd,hf,hp⟩:=h
 exact ptneg_any feC ha hb hd hf hp W
theorem run_bldSlice (w:World) (len:Nat) (parts:Array (Nat × Value)) (cells:Array Value) (h0:len*352≠0) (h1:len*352≤2^24)
  (hf:Instr.fill (fun i=>some (i*352,352)) ((Array.range (len*352)).map (zProd[· % zProd.size]!)) parts.toList=some cells) :
  (Instr.buildSlice 159 len parts).run Tryz.prog w=.ok (.slice (some ⟨w.heap.size,0,none⟩) len len) (w.alloc (.cells cells 124)):=by
 have hs:(sizeOf 124).run Tryz.prog w=.ok 352 w:=by kernel_rfl
 have hzv:=zProd_zero w
 unfold Instr.buildSlice
 simp only [Sem.run_bind,run_underlying Tryz.underlying159 w,Result.andThen_ok,hs]
 rw [if_neg (by omega),if_neg h0]
 simp only [Sem.run_bind,Sem.run_pure,Result.andThen_ok,hzv]
 have hc:(Value.agg zProd).cells=zProd:=rfl
 rw [hc,hf]
 simp only [newRow,Sem.run_bind,Sem.run_pure,Result.andThen_ok,run_newObj_alloc]
theorem lay_one {z v:Array Value} (hs:z.size=v.size):v.zipIdx.foldl (fun cs (p:Value × Nat)=>cs.setIfInBounds (0+p.2) p.1) z=v:=by
 have h:=lay_mid (x:=#[]) (y:=z) (z:=#[]) (v:=v) (off:=0) rfl hs
 simpa using h
theorem lay_fst {z v:Array Value} {n:Nat} (hz:z.size=n+n) (hv:v.size=n):v.zipIdx.foldl (fun cs (p:Value × Nat)=>cs.setIfInBounds (0+p.2) p.1) z=v++z.extract n z.size:=by
 rw [lay_part v 0 z (by omega),Nat.zero_add,hv]
 simp
theorem run_bld1 (w:World) {a:Array Value} (ha:a.size=352):(Instr.buildSlice 159 1 #[(0,.agg a)]).run Tryz.prog w=.ok (.slice (some ⟨w.heap.size,0,none⟩) 1 1) (w.alloc (.cells (flatC [a]) 124)):=by
 refine run_bldSlice w 1 _ _ (by omega) (by omega) ?_
 have hz:((Array.range (1*352)).map (zProd[· % zProd.size]!)).size=352:=by simp
 generalize (Array.range (1*352)).map (zProd[· % zProd.size]!)=z at *
 rw [show (#[(0,Value.agg a)]:Array (Nat × Value)).toList=[(0,Value.agg a)] from rfl,fill_part (off:=0) (cs':=a) (by rw [ha]) (by omega) (lay_one (by omega))]
 show some a=some (flatC [a])
 simp [flatC]
theorem run_bld2 (w:World) {a b:Array Value} (ha:a.size=352) (hb:b.size=352):(Instr.buildSlice 159 2 #[(0,.agg a),(1,.agg b)]).run Tryz.prog w=.ok (.slice (some ⟨w.heap.size,0,none⟩) 2 2) (w.alloc (.cells (flatC [a,b]) 124)):=by
 refine run_bldSlice w 2 _ _ (by omega) (by omega) ?_
 have hz:((Array.range (2*352)).map (zProd[· % zProd.size]!)).size=352+352:=by simp
 generalize (Array.range (2*352)).map (zProd[· % zProd.size]!)=z at *
 have h2:=lay_mid (x:=a) (y:=z.extract 352 z.size) (z:=#[]) (v:=b) (off:=352) ha (by simp;omega)
 rw [Array.append_empty,Array.append_empty] at h2
 rw [show (#[(0,Value.agg a),(1,Value.agg b)]:Array (Nat × Value)).toList=[(0,Value.agg a),(1,Value.agg b)] from rfl,fill_part (off:=0) (cs':=a++z.extract 352 z.size) (by rw [ha]) (by omega) (lay_fst hz ha),fill_part (off:=352) (cs':=a++b) (by rw [hb]) (by simp;omega) h2]
 show some (a++b)=some (flatC [a,b])
 simp [flatC]
theorem wp_bld2 {o:Oper} {a:Act} {w:World} {K:Act→World→Prop} {Q:Exit→Act→World→Prop} {x y:Operand} (ho:o.op=.buildSlice 159 2 #[(0,x),(1,y)]) {A B:Array Value}
  (hx:a.eval x=.agg A) (hy:a.eval y=.agg B) (sA:A.size=352) (sB:B.size=352) (h:K (a.put o.dst (.slice (some ⟨w.heap.size,0,none⟩) 2 2)) (w.alloc (.cells (flatC [A,B]) 124))):o.wp Tryz.prog a w K Q:=by
 unfold Oper.wp execOp
 simp only [ho,List.map_toArray,List.map_cons,List.map_nil,hx,hy,Sem.run_bind,run_bld2 w sA sB,Result.andThen_ok]
 exact h
theorem wpList_bld1 {ops:Array Oper} {rest:List Oper} {o:Oper} {a:Act} {w:World} {Q:Exit→Act→World→Prop} {x:Operand} (hgd:o.guard=none) (ho:o.op=.buildSlice 159 1 #[(0,x)]) {A:Array Value}
  (hx:a.eval x=.agg A) (sA:A.size=352) (h:wpList Tryz.prog ops Q rest (a.put o.dst (.slice (some ⟨w.heap.size,0,none⟩) 1 1)) (w.alloc (.cells (flatC [A]) 124))):wpList Tryz.prog ops Q (o :: rest) a w:=by
 refine wpList_plain hgd fun K hK=>?_
 unfold Oper.wp execOp
 simp only [ho,List.map_toArray,List.map_cons,List.map_nil,hx,Sem.run_bind,run_bld1 w sA,Result.andThen_ok]
 exact hK _ _ h
theorem prL1 {R:Array Value→PtD→Prop} {l:List UInt8} (hl:l.length=32) {ms:List (Array Value)} {p:PtD} (h:Mup R p 15 ms):PrL R [(l,ms,p)]:=by
 intro q hq
 rw [List.mem_singleton] at hq
 subst hq
 exact ⟨hl,h⟩
theorem prL2 {R:Array Value→PtD→Prop} {l m:List UInt8} (hl:l.length=32) (hm:m.length=32) {ms ns:List (Array Value)} {p q:PtD} (h:Mup R p 15 ms) (k:Mup R q 15 ns):PrL R [(l,ms,p),(m,ns,q)]:=by
 intro x hx
 rcases List.mem_cons.1 hx with rfl | hx
 ·exact ⟨hl,h⟩
 ·rw [List.mem_singleton] at hx
  subst hx
  exact ⟨hm,k⟩
theorem sumP1 (l:List UInt8) (ms:List (Array Value)) (p:PtD):sumP (fun n=>n) ([(l,ms,p)].map numP)=pmul (leN l) p:=by
 show padd (pmul (leN l) p) pzero=_
 rw [padd_z]
theorem sumP2 (l m:List UInt8) (ms ns:List (Array Value)) (p q:PtD):sumP (fun n=>n) ([(l,ms,p),(m,ns,q)].map numP)=padd (pmul (leN l) p) (pmul (leN m) q):=by
 show padd (pmul (leN l) p) (padd (pmul (leN m) q) pzero)=_
 rw [padd_z]
theorem mmult_any {R:Array Value→PtD→Prop} (C:PtM R) (hz:R z20 pzero) {l:List UInt8} (hl:l.length=32) {c:Array Value} {p:PtD} (hc:R c p) (w:World) :
  Calls Tryz.prog 108 #[.agg (arrB l),.agg c] w (RetPt R w (pmul (leN l) p)):=by
 have HL:=yh hl
 have HC:=yh hc
 have hBB:(Tryz.prog.info? 22).map (·.size)=some (arrB l).size:=by rw [zam,hl];kernel_rfl
 have HBB:=yh hBB
 clear hl hc hBB
 have hz20:∀ u,(zeroValue 65).run Tryz.prog u=.ok (.agg z20) u:=zp_zero
 have hzs:=z20_size
 obtain ⟨Z,hZ⟩:∃ Z,z20=Z:=⟨_,rfl⟩
 have hz':=hz
 rw [hZ] at hz20 hzs hz'
 have HZS:=yh hzs
 clear hzs hz' hZ
 have HR0:=yh ((((RowsW.nil w).box (arrB l) 22).box c 65).box Z 65)
 have HB0:=yh (zae (zae (zae (Below.refl w.heap.size w) (arrB l) 22) c 65) Z 65)
 rw [World.size_alloc] at HR0
 rw [World.size_alloc] at HR0
 go_enter Tryz.func108,Tryz.ntmps108
 go_upto_region 1 with fail
 obtain ⟨W0,hW0⟩:∃ W,(((w.alloc (.cells (arrB l) 22)).alloc (.cells c 65)).alloc (.cells Z 65))=W:=⟨_,rfl⟩
 obtain ⟨g0,hg0⟩:∃ g,w.heap.size=g:=⟨_,rfl⟩
 rw [hW0] at HR0 HB0
 rw [hg0] at HR0
 rw [hW0]
 (try rw [hg0])
 have HG0:=yh hg0
 clear hW0 hg0
 have l1:=HR0.out.tail.tail.head
 have l2:=HR0.out.tail.head
 go_wp2_with (first
  | (refine yi l1 Tryz.underlying22 HBB.out ?_)
  | (refine yi l2 Tryz.underlying65 (C.base.info HC.out) ?_))
 with_reducible refine (mtimes_any C hz HL.out HC.out _).mono ?_
 rintro e v2 ⟨ms,rfl,r2,hv2⟩
 have HSA:Hid ((prC l ms).size=352):=yh (prC_size HL.out (r2.size C.base) r2.len)
 have hb6:Below W0.heap.size W0 (v2.alloc (.cells (flatC [prC l ms]) 124)):=hv2.alloc hv2.size _
 have hg6:(v2.alloc (.cells (flatC [prC l ms]) 124)).heap[v2.heap.size]?=some (.cells (flatC [prC l ms]) 124 (0,0)):=heap_alloc_new _ _
 have hsum:=msum_any C hz (L:=[(l,ms,p)]) (n:=1) (cap:=1) (prL1 HL.out r2) hg6 rfl (by omega)
 rw [sumP1] at hsum
 have HSM:=yh hsum
 clear hsum hg6 r2 l1 l2
 go_wp2_with (refine wpList_bld1 rfl rfl rfl HSA.out ?_)
 with_reducible refine HSM.out.mono ?_
 rintro e v7 ⟨c7,rfl,r7,hv7⟩
 have R7:=yh r7
 have hb7:=zaa hb6 hv7
 clear r7 hv7 hb6 hv2 HSM
 have hst:=(HR0.out.below hb7).head
 have hf:(v7.setRow (g0+1+1) c7).heap[(g0+1+1)]?=some (.cells c7 65 (0,0)):=setRow_heap _ _ _ _ _ _ hst
 have hB9:Below w.heap.size w (v7.setRow (g0+1+1) c7):=zac (below_then HB0.out hb7) (by have:=HG0.out;omega)
 go_wp2_with (refine yj c7 hst (C.base.info R7.out) (by rw [HZS.out,pt20 C.base R7.out]) (C.base.one R7.out) ?_)
 (try simp only [Exit.inBlock,Exit.then])
 refine bodyPost_ret (results_cell_row rfl _ _ (g0+1+1) _ c7 _ _ rfl hf Tryz.underlying65 rfl (C.base.info R7.out)) rfl ?_
 exact ⟨c7,rfl,R7.out,hB9⟩
theorem mbase_any {R:Array Value→PtD→Prop} (C:PtM R) (hz:R z20 pzero) {l:List UInt8} (hl:l.length=32) (w:World) :
  Calls Tryz.prog 51 #[.agg (arrB l)] w (RetPt R w (pmul (leN l) F25519.base)):=by
 have HL:=yh hl
 have hBB:(Tryz.prog.info? 22).map (·.size)=some (arrB l).size:=by rw [zam,hl];kernel_rfl
 have HBB:=yh hBB
 clear hl hBB
 have hz20:∀ u,(zeroValue 65).run Tryz.prog u=.ok (.agg z20) u:=zp_zero
 have hzs:=z20_size
 obtain ⟨Z,hZ⟩:∃ Z,z20=Z:=⟨_,rfl⟩
 have hz':=hz
 rw [hZ] at hz20 hzs hz'
 have HZS:=yh hzs
 clear hzs hz' hZ
 have HR0:=yh (((RowsW.nil w).box (arrB l) 22).box Z 65)
 have HB0:=yh (zae (zae (Below.refl w.heap.size w) (arrB l) 22) Z 65)
 rw [World.size_alloc] at HR0
 go_enter Tryz.func51,Tryz.ntmps51
 go_upto_region 1 with fail
 obtain ⟨W0,hW0⟩:∃ W,((w.alloc (.cells (arrB l) 22)).alloc (.cells Z 65))=W:=⟨_,rfl⟩
 obtain ⟨g0,hg0⟩:∃ g,w.heap.size=g:=⟨_,rfl⟩
 rw [hW0] at HR0 HB0
 rw [hg0] at HR0
 rw [hW0]
 (try rw [hg0])
 have HG0:=yh hg0
 clear hW0 hg0
 refine wp_region_noPanic ?_
 refine zah (S:=fun W=>Below W0.heap.size W0 W) 3 (by kernel_rfl) ⟨by kernel_rfl,by kernel_rfl,by kernel_rfl,by kernel_rfl⟩ (by exact (Below.refl _ _).drew) (fun hT inv hS=>?_)
 refine' yT 0 hT inv hS (fun inv=>?_) (hy:=fun W hSW=>zad rfl rfl (HR0.out.below hSW).tail.head Tryz.underlying22 rfl HBB.out)
 refine xT 1 inv (fun K hK=>?_)
 go_simp
 with_reducible refine (C.basep _).mono ?_
 rintro e v1 ⟨c1,rfl,r1,hv1⟩
 have R1:=yh r1
 clear r1
 have hb1:=zaa hS hv1
 clear hS hv1
 refine hK.out _ _ (by exact hb1) (fun inv hS=>?_)
 clear hK K
 refine xT 2 inv (fun K hK=>?_)
 go_simp
 with_reducible refine (mmult_any C hz HL.out R1.out _).mono ?_
 rintro e v2 ⟨c2,rfl,r2,hv2⟩
 have R2:=yh r2
 clear r2
 have hb2:=zaa hS hv2
 clear hS hv2
 refine hK.out _ _ (by exact hb2) (fun inv hS=>?_)
 clear hK K
 refine zaD (by kernel_rfl) ?_
 simp only [List.drop_succ_cons,List.drop_zero]
 have hst:=(HR0.out.below hb2).head
 have hf:(v2.setRow (g0+1) c2).heap[(g0+1)]?=some (.cells c2 65 (0,0)):=setRow_heap _ _ _ _ _ _ hst
 have hB9:Below w.heap.size w (v2.setRow (g0+1) c2):=zac (below_then HB0.out hb2) (by have:=HG0.out;omega)
 go_wp2_with (refine yj c2 hst (C.base.info R2.out) (by rw [HZS.out,pt20 C.base R2.out]) (C.base.one R2.out) ?_)
 refine NoPanic.normal ?_
 go_wp2_with fail
 (try simp only [Exit.inBlock,Exit.then])
 refine bodyPost_ret (results_cell_row rfl _ _ (g0+1) _ c2 _ _ rfl hf Tryz.underlying65 rfl (C.base.info R2.out)) rfl ?_
 exact ⟨c2,rfl,R2.out,hB9⟩
theorem mtwo_any {R:Array Value→PtD→Prop} (C:PtM R) (hz:R z20 pzero) {l m:List UInt8} (hl:l.length=32) (hm:m.length=32) {c:Array Value} {p:PtD} (hc:R c p) (w:World) :
  Calls Tryz.prog 37 #[.agg (arrB l),.agg c,.agg (arrB m)] w (RetPt R w (padd (pmul (leN l) p) (pmul (leN m) F25519.base))):=by
 have HL:=yh hl
 have HM:=yh hm
 have HC:=yh hc
 have hBB:(Tryz.prog.info? 22).map (·.size)=some (arrB l).size:=by rw [zam,hl];kernel_rfl
 have hMM:(Tryz.prog.info? 22).map (·.size)=some (arrB m).size:=by rw [zam,hm];kernel_rfl
 have HBB:=yh hBB
 have HMM:=yh hMM
 clear hl hc hm hBB hMM
 have hz20:∀ u,(zeroValue 65).run Tryz.prog u=.ok (.agg z20) u:=zp_zero
 have hzs:=z20_size
 obtain ⟨Z,hZ⟩:∃ Z,z20=Z:=⟨_,rfl⟩
 have hz':=hz
 rw [hZ] at hz20 hzs hz'
 have HZS:=yh hzs
 clear hzs hz' hZ
 have HR0:=yh (((((RowsW.nil w).box (arrB l) 22).box c 65).box (arrB m) 22).box Z 65)
 have HB0:=yh (zae (zae (zae (zae (Below.refl w.heap.size w) (arrB l) 22) c 65) (arrB m) 22) Z 65)
 rw [World.size_alloc] at HR0
 rw [World.size_alloc] at HR0
 rw [World.size_alloc] at HR0
 go_enter Tryz.func37,Tryz.ntmps37
 go_upto_region 1 with fail
 obtain ⟨W0,hW0⟩:∃ W,((((w.alloc (.cells (arrB l) 22)).alloc (.cells c 65)).alloc (.cells (arrB m) 22)).alloc (.cells Z 65))=W:=⟨_,rfl⟩
 obtain ⟨g0,hg0⟩:∃ g,w.heap.size=g:=⟨_,rfl⟩
 rw [hW0] at HR0 HB0
 rw [hg0] at HR0
 rw [hW0]
 (try rw [hg0])
 have HG0:=yh hg0
 clear hW0 hg0
 refine wp_region_noPanic ?_
 refine zah (S:=fun W=>Below W0.heap.size W0 W) 8 (by kernel_rfl) ⟨by kernel_rfl,by kernel_rfl,by kernel_rfl,by kernel_rfl⟩ (by exact (Below.refl _ _).drew) (fun hT inv hS=>?_)
 refine' yT 0 hT inv hS (fun inv=>?_) (hy:=fun W hSW=>zad rfl rfl (HR0.out.below hSW).tail.tail.tail.head Tryz.underlying22 rfl HBB.out)
 refine' yT 1 hT inv hS (fun inv=>?_) (hy:=fun W hSW=>zad rfl rfl (HR0.out.below hSW).tail.tail.head Tryz.underlying65 rfl (C.base.info HC.out))
 refine' yT 3 hT inv hS (fun inv=>?_) (hy:=fun W hSW=>zad rfl rfl (HR0.out.below hSW).tail.head Tryz.underlying22 rfl HMM.out)
 refine xT 2 inv (fun K hK=>?_)
 go_simp
 with_reducible refine (mtimes_any C hz HL.out HC.out _).mono ?_
 rintro e v2 ⟨ms,rfl,r2,hv2⟩
 have R2:=yh r2
 clear r2
 have hb2:=zaa hS hv2
 clear hS hv2
 refine hK.out _ _ (by exact hb2) (fun inv hS=>?_)
 clear hK K
 refine xT 4 inv (fun K hK=>?_)
 go_simp
 with_reducible refine (C.basep _).mono ?_
 rintro e v4 ⟨c4,rfl,r4,hv4⟩
 have R4:=yh r4
 clear r4
 have hb4:=zaa hS hv4
 clear hS hv4
 refine hK.out _ _ (by exact hb4) (fun inv hS=>?_)
 clear hK K
 refine xT 5 inv (fun K hK=>?_)
 go_simp
 with_reducible refine (mtimes_any C hz HM.out R4.out _).mono ?_
 rintro e v5 ⟨ns,rfl,r5,hv5⟩
 have R5:=yh r5
 clear r5
 have hb5:=zaa hS hv5
 clear hS hv5
 have HSA:Hid ((prC l ms).size=352):=yh (prC_size HL.out (R2.out.size C.base) R2.out.len)
 have HSB:Hid ((prC m ns).size=352):=yh (prC_size HM.out (R5.out.size C.base) R5.out.len)
 refine hK.out _ _ (by exact hb5) (fun inv hS=>?_)
 clear hK K
 refine xT 6 inv (fun K hK=>?_)
 refine wp_bld2 rfl rfl rfl HSA.out HSB.out ?_
 have hb6:Below W0.heap.size W0 (v5.alloc (.cells (flatC [prC l ms,prC m ns]) 124)):=hb5.alloc hb5.size _
 have hg6:(v5.alloc (.cells (flatC [prC l ms,prC m ns]) 124)).heap[v5.heap.size]?=some (.cells (flatC [prC l ms,prC m ns]) 124 (0,0)):=heap_alloc_new _ _
 refine hK.out _ _ (by exact hb6) (fun inv hS=>?_)
 clear hK K
 refine xT 7 inv (fun K hK=>?_)
 go_simp
 with_reducible refine (msum_any C hz (L:=[(l,ms,p),(m,ns,F25519.base)]) (n:=2) (prL2 HL.out HM.out R2.out R5.out) hg6 rfl (by omega)).mono ?_
 rintro e v7 ⟨c7,rfl,r7,hv7⟩
 rw [sumP2] at r7
 have R7:=yh r7
 clear r7
 have hb7:=zaa hb6 hv7
 clear hS hv7
 refine hK.out _ _ (by exact hb7) (fun inv hS=>?_)
 clear hK K
 refine zaD (by kernel_rfl) ?_
 simp only [List.drop_succ_cons,List.drop_zero]
 have hst:=(HR0.out.below hb7).head
 have hf:(v7.setRow (g0+1+1+1) c7).heap[(g0+1+1+1)]?=some (.cells c7 65 (0,0)):=setRow_heap _ _ _ _ _ _ hst
 have hB9:Below w.heap.size w (v7.setRow (g0+1+1+1) c7):=zac (below_then HB0.out hb7) (by have:=HG0.out;omega)
 go_wp2_with (refine yj c7 hst (C.base.info R7.out) (by rw [HZS.out,pt20 C.base R7.out]) (C.base.one R7.out) ?_)
 refine NoPanic.normal ?_
 go_wp2_with fail
 (try simp only [Exit.inBlock,Exit.then])
 refine bodyPost_ret (results_cell_row rfl _ _ (g0+1+1+1) _ c7 _ _ rfl hf Tryz.underlying65 rfl (C.base.info R7.out)) rfl ?_
 exact ⟨c7,rfl,R7.out,hB9⟩
theorem ptR_zero:ptR z20 pzero:=by
 obtain ⟨Z,hZ,rZ⟩:=feC.base.zero
 rw [z5_is hZ] at rZ
 exact ⟨z5,z5,z5,z5,0,0,0,0,rfl,rZ,rZ,rZ,rZ,.inr ⟨rfl,rfl,rfl,rfl,rfl⟩⟩
theorem muC:MuC ptR where
 mult:=fun l hl {c p} hc W=>mmult_any ptM ptR_zero hl hc W
 base:=fun l hl W=>mbase_any ptM ptR_zero hl W
 two:=fun l m hl hm {c p} hc W=>mtwo_any ptM ptR_zero hl hm hc W
structure PtV (R:Array Value→PtD→Prop):Prop where
 base:PtB R
 decode:PtDecodeC R
 encode:PtEncodeC R
 neg:PtNegC R
theorem ptV:PtV ptR:=⟨ptB,ptR_dec,ptR_enc,ptR_neg⟩
def mulB (n:Nat):List UInt8:=encP (pmul n F25519.base)
theorem mulB_len (n:Nat):(mulB n).length=32:=encP_len _
theorem emultiple_any {R:Array Value→PtD→Prop} (D:PtV R) (M:MuC R) (l:List UInt8) (hl:l.length=32) (w:World):Calls Tryz.prog 23 #[.agg (arrB l)] w (RetV w (.agg (arrB (mulB (leN l))))):=by
 have HL:=yh hl
 clear hl
 have hz32:=zaq
 have hz64:=zer64_zero
 have HR0:=yh (((RowsW.nil w).box (arrB l) 22).box zag 22)
 have HB0:=yh (zae (zae (Below.refl w.heap.size w) (arrB l) 22) zag 22)
 rw [World.size_alloc] at HR0
 go_enter Tryz.func23,Tryz.ntmps23
 go_upto_region 1 with fail
 obtain ⟨W0,hW0⟩:∃ W,((w.alloc (.cells (arrB l) 22)).alloc (.cells zag 22))=W:=⟨_,rfl⟩
 obtain ⟨g0,hg0⟩:∃ g,w.heap.size=g:=⟨_,rfl⟩
 rw [hW0] at HR0 HB0
 rw [hg0] at HR0
 rw [hW0]
 (try rw [hg0])
 have HG0:=yh hg0
 clear hW0 hg0
 have l1:=HR0.out.tail.head
 go_wp2_with (refine yi l1 Tryz.underlying22 (zaf HL.out) ?_)
 obtain ⟨p2,Hp2⟩:=yx (α:=PtD) (pmul (leN l) F25519.base)
 with_reducible refine ((M.base l HL.out) _).mono ?_
 rintro e vq3 ⟨cq3,rfl,rq3,hbq3⟩
 rw [Hp2.out] at rq3
 have Rq3:=yh rq3
 clear rq3
 have HRq3:=yh (HR0.out.below hbq3)
 have HBq3:=yh (zaa HB0.out hbq3)
 clear hbq3
 go_wp2_with fail
 with_reducible refine ((D.encode Rq3.out) _).mono ?_
 rintro e vq4 ⟨rfl,hbq4⟩
 have HRq4:=yh (HRq3.out.below hbq4)
 have HBq4:=yh (zaa HBq3.out hbq4)
 clear hbq4
 have lsq5:=HRq4.out.head
 have HRq5:Hid (RowsW (vq4.setRow (g0+1) (bytT (F25519.encN p2))) [((g0+1),(bytT (F25519.encN p2)),22),(g0,(arrB l),22)]):=yh ⟨setRow_heap _ _ _ _ _ _ lsq5,(by rw [setRow_other _ _ _ _ (by omega)];exact HRq4.out.tail.head),trivial⟩
 have HBq5:=yh (zac (g:=(g0+1)) (cs:=(bytT (F25519.encN p2))) HBq4.out (by have:=HG0.out;omega))
 go_wp2_with (refine yj (bytT (F25519.encN p2)) lsq5 (zaI _) (zero32_byt _) (bytT_one _) ?_)
 obtain ⟨Wq5,hWq5⟩:∃ W,vq4.setRow (g0+1) (bytT (F25519.encN p2))=W:=⟨_,rfl⟩
 rw [hWq5] at HRq5 HBq5
 (try rw [hWq5])
 clear hWq5 lsq5
 (try simp only [Exit.inBlock,Exit.then])
 refine bodyPost_ret (results_cell_row rfl _ _ (g0+1) _ (bytT (F25519.encN p2)) _ _ rfl HRq5.out.head Tryz.underlying22 rfl (zaI _)) rfl ?_
 exact ⟨by rw [show arrB (mulB (leN l))=(bytT (F25519.encN p2)) from by unfold mulB encP;rw [Hp2.out];rfl],HBq5.out⟩
theorem or64 (y:UInt8):bits .or .u8 ((y &&& 127).toNat:Int) 64=(((y &&& 63)+64).toNat:Int):=by
 obtain ⟨n,hn,rfl⟩:∃ n,n<256∧UInt8.ofNat n=y:=⟨y.toNat,y.toNat_lt,by simp⟩
 revert n
 decide +kernel
theorem esecrets_any (seed:List UInt8) (hs:seed.length=32) (w:World):Calls Tryz.prog 22 #[.agg (arrB seed)] w (RetV w (.tuple #[.agg (arrB (secB seed)),.agg (arrB (saltB seed))])):=by
 have HSE:=yh hs
 clear hs
 have hz32:=zaq
 have hz64:=zer64_zero
 have HOF:Hid (∀ (W:World) (g:Nat) (A:Option Addr),W.heap[g]?=some (.cells #[.slice A 32 32] 23 (0,0))→Bs W A seed→Calls Tryz.prog 21 #[.slice (some ⟨g,0,none⟩) 1 1] W (RetV W (.agg (arrB (zaM seed))))):=yh fun W g A hg ba=>eof1 HSE.out (Nat.le_refl _) (by omega) hg ba
 obtain ⟨h,hh⟩:∃ h,zaM seed=h:=⟨_,rfl⟩
 have HHL:Hid (h.length=64):=yh (by rw [← hh];exact digest_lenE _)
 have HSB:Hid (secB seed=clampB h):=yh (by unfold secB;rw [hh])
 have HSA:Hid (saltB seed=h.drop 32):=yh (by unfold saltB;rw [hh])
 rw [hh] at HOF
 clear hh
 obtain ⟨R0,hR0⟩:∃ y_,h.take 32=y_:=⟨_,rfl⟩
 have HRL:Hid (R0.length=32):=yh (by rw [← hR0,List.length_take,HHL.out];rfl)
 have HRD:=yh hR0
 obtain ⟨S0,hS0⟩:∃ y_,h.drop 32=y_:=⟨_,rfl⟩
 have HSL:Hid (S0.length=32):=yh (by rw [← hS0,List.length_drop,HHL.out])
 have HSD:=yh hS0
 clear hR0 hS0
 have HR0:=yh ((((RowsW.nil w).box (arrB seed) 22).box zag 22).box zag 22)
 have HB0:=yh (zae (zae (zae (Below.refl w.heap.size w) (arrB seed) 22) zag 22) zag 22)
 rw [World.size_alloc,World.size_alloc] at HR0
 go_enter Tryz.func22,Tryz.ntmps22
 go_upto_region 1 with fail
 obtain ⟨W0,hW0⟩:∃ W,(((w.alloc (.cells (arrB seed) 22)).alloc (.cells zag 22)).alloc (.cells zag 22))=W:=⟨_,rfl⟩
 obtain ⟨g0,hg0⟩:∃ g,w.heap.size=g:=⟨_,rfl⟩
 rw [hW0] at HR0 HB0
 rw [hg0] at HR0
 rw [hW0]
 (try rw [hg0])
 have HG0:=yh hg0
 clear hW0 hg0
 go_wp2_with fail
 have hbl:Below W0.heap.size W0 (W0.alloc (.cells #[.slice (some ⟨g0,0,none⟩) 32 32] 23)):=(Below.refl _ _).alloc (Nat.le_refl _) _
 with_reducible refine (HOF.out _ _ _ (heap_alloc_new _ _) (row_bs (HR0.out.below hbl).tail.tail.head)).mono ?_
 rintro e v1 ⟨rfl,hb1⟩
 have HR1:=yh (HR0.out.below (zaa hbl hb1))
 have HB1:=yh (zaa HB0.out (zaa hbl hb1))
 clear hb1 hbl
 have h0q1:(v1.alloc (.cells zer64 24)).heap[v1.heap.size]?=some (.cells zer64 24 (0,0)):=heap_alloc_new _ _
 have HRq1:=yh (HR1.out.new zer64 (arrB h) 24)
 have HBq1:=yh (zau HB1.out zer64 (arrB h) 24)
 have HNq1:=yh HR1.out.ne
 have HGq1:=yh HB1.out.size
 go_upto_region 2 with (refine yj (arrB h) h0q1 (zaP HHL.out) (zer64_size HHL.out) (zap _) ?_)
 obtain ⟨Wq1,hWq1⟩:∃ W,(v1.alloc (.cells zer64 24)).setRow v1.heap.size (arrB h)=W:=⟨_,rfl⟩
 obtain ⟨gq1,hgq1⟩:∃ g,v1.heap.size=g:=⟨_,rfl⟩
 rw [hWq1,hgq1] at HRq1
 rw [hWq1] at HBq1
 rw [hgq1] at HNq1 HGq1
 rw [hWq1,hgq1]
 clear hWq1 hgq1 h0q1
 have NEq1_0:Hid (g0≠gq1):=yh (HNq1.out (g0,(arrB seed),22) (by simp))
 have NEq1_1:Hid ((g0+1)≠gq1):=yh (HNq1.out ((g0+1),zag,22) (by simp))
 have NEq1_2:Hid ((g0+1+1)≠gq1):=yh (HNq1.out ((g0+1+1),zag,22) (by simp))
 have HRq2:=yh (HRq1.out.below (Below.refl _ _).drew)
 have HBq2:=yh (zaa HBq1.out (Below.refl _ _).drew)
 have lsq2_0:=HRq2.out.tail.tail.head
 have HRq2_0:Hid (RowsW (Wq1.drew.setRow (g0+1) (arrB R0)) [(gq1,(arrB h),24),((g0+1+1),zag,22),((g0+1),(arrB R0),22),(g0,(arrB seed),22)]):=yh ⟨(by rw [setRow_other _ _ _ _ (Ne.symm NEq1_1.out)];exact HRq2.out.head),(by rw [setRow_other _ _ _ _ (Ne.symm (by omega))];exact HRq2.out.tail.head),setRow_heap _ _ _ _ _ _ lsq2_0,(by rw [setRow_other _ _ _ _ (by omega)];exact HRq2.out.tail.tail.tail.head),trivial⟩
 have HBq2_0:=yh (zac (g:=(g0+1)) (cs:=(arrB R0)) HBq2.out (by have:=HG0.out;omega))
 have lsq2_1:=HRq2_0.out.tail.head
 have HRq2_1:Hid (RowsW ((Wq1.drew.setRow (g0+1) (arrB R0)).setRow (g0+1+1) (arrB S0)) [(gq1,(arrB h),24),((g0+1+1),(arrB S0),22),((g0+1),(arrB R0),22),(g0,(arrB seed),22)]):=yh ⟨(by rw [setRow_other _ _ _ _ (Ne.symm NEq1_2.out)];exact HRq2_0.out.head),setRow_heap _ _ _ _ _ _ lsq2_1,(by rw [setRow_other _ _ _ _ (by omega)];exact HRq2_0.out.tail.tail.head),(by rw [setRow_other _ _ _ _ (by omega)];exact HRq2_0.out.tail.tail.tail.head),trivial⟩
 have HBq2_1:=yh (zac (g:=(g0+1+1)) (cs:=(arrB S0)) HBq2_0.out (by have:=HG0.out;omega))
 refine wp_region_noPanic ?_
 refine wp_region_held_drew (S:=fun W=>W.heap[gq1]?=some (.cells (arrB h) 24 (0,0))) (by kernel_rfl) (by exact HRq2.out.head) (fun hS=>?_)
 refine' yk 0  hS ?_ (hy:=by intro W hSW;have hsl:=sl64_lo gq1;go_simp;try with_reducible rfl)
 refine' yk 1  hS ?_ (hy:=by intro W hSW;have hat:=arr32_at gq1 0 64;go_simp;try with_reducible rfl)
 refine' yk 2  hS ?_ (hy:=by intro W hSW;exact zaT rfl rfl (by have h:=row_lo (k:=32) hSW;rwa [HRD.out] at h) Tryz.underlying22 rfl (arr32_info' HRL.out))
 refine' yk 3  hS ?_ (hy:=by intro W hSW;have hsl:=sl64_hi gq1;go_simp;try with_reducible rfl)
 refine' yk 4  hS ?_ (hy:=by intro W hSW;have hat:=arr32_at gq1 32 32;go_simp;try with_reducible rfl)
 refine' yk 5  hS ?_ (hy:=by intro W hSW;exact zaT rfl rfl (by have h:=row_hi (k:=32) hSW;rwa [HSD.out] at h) Tryz.underlying22 rfl (arr32_info' HSL.out))
 refine xk 6  (fun K hK=>?_)
 refine wp_store_row 22 (.tmp 2) (.tmp 10) rfl (g0+1) (arrB R0) rfl rfl 22 zag lsq2_0 (zaf HRL.out) (zar HRL.out) (zap _) ?_
 refine hK.out _ _ (by exact HRq2_0.out.head) (fun hS=>?_)
 clear hK K
 refine xk 7  (fun K hK=>?_)
 refine wp_store_row 22 (.tmp 3) (.tmp 13) rfl (g0+1+1) (arrB S0) rfl rfl 22 zag lsq2_1 (zaf HSL.out) (zar HSL.out) (zap _) ?_
 refine hK.out _ _ (by exact HRq2_1.out.head) (fun hS=>?_)
 clear hK K
 refine wpAnyH_done (by kernel_rfl) ?_ _
 refine NoPanic.normal ?_
 (try clear hS)
 (try simp only [Act.put])
 obtain ⟨Wq2,hWq2⟩:∃ W,((Wq1.drew.setRow (g0+1) (arrB R0)).setRow (g0+1+1) (arrB S0))=W:=⟨_,rfl⟩
 rw [hWq2] at HRq2_1 HBq2_1
 (try rw [hWq2])
 clear hWq2 lsq2_0 lsq2_1
 go_upto_region 3 with fail
 obtain ⟨x,hx⟩:∃ x:UInt8,R0.getD 0 0=x:=⟨_,rfl⟩
 obtain ⟨y,hy⟩:∃ y:UInt8,R0.getD 31 0=y:=⟨_,rfl⟩
 have r0:=HRq2_1.out.tail.tail.head
 have c0:Wq2.cell? ⟨(g0+1),0,none⟩=some (.int .u8 (x.toNat:Int)):=by rw [cell_of_row _ _ _ _ _ _ r0,zaJ _ _ (by rw [HRL.out];omega),hx]
 have f0:=frozen_row r0 0
 have a0:bits .and .u8 (x.toNat:Int) 248=((x &&& 248).toNat:Int):=u8_and' x 248
 have e1:=setCell_eq_setRow Wq2 (g0+1) 0 _ _ _ (.int .u8 ((x &&& 248).toNat:Int)) r0
 rw [arrB_set] at e1
 have s1:RowsW (Wq2.setCell ⟨(g0+1),0,none⟩ (.int .u8 ((x &&& 248).toNat:Int))) [(gq1,(arrB h),24),((g0+1+1),(arrB S0),22),((g0+1),arrB (R0.set 0 (x &&& 248)),22),(g0,(arrB seed),22)]:=by
  rw [e1]
  exact ⟨(by rw [setRow_other _ _ _ _ (Ne.symm NEq1_1.out)];exact HRq2_1.out.head),(by rw [setRow_other _ _ _ _ (Ne.symm (by omega))];exact HRq2_1.out.tail.head),setRow_heap _ _ _ _ _ _ r0,(by rw [setRow_other _ _ _ _ (by omega)];exact HRq2_1.out.tail.tail.tail.head),trivial⟩
 have r1:=s1.tail.tail.head
 have hy2:(R0.set 0 (x &&& 248)).getD 31 0=y:=by rw [← hy];simp [List.getD]
 have c1:(Wq2.setCell ⟨(g0+1),0,none⟩ (.int .u8 ((x &&& 248).toNat:Int))).cell? ⟨(g0+1),31,none⟩=some (.int .u8 (y.toNat:Int)):=by rw [cell_of_row _ _ _ _ _ _ r1,zaJ _ _ (by rw [List.length_set,HRL.out];omega),hy2]
 have f1:=frozen_row r1 31
 have a1:bits .and .u8 (y.toNat:Int) 127=((y &&& 127).toNat:Int):=u8_and' y 127
 have a2:bits .or .u8 ((y &&& 127).toNat:Int) 64=(((y &&& 63)+64).toNat:Int):=or64 y
 have e2:=setCell_eq_setRow (Wq2.setCell ⟨(g0+1),0,none⟩ (.int .u8 ((x &&& 248).toNat:Int))) (g0+1) 31 _ _ _ (.int .u8 (((y &&& 63)+64).toNat:Int)) r1
 rw [arrB_set] at e2
 have hcl:(R0.set 0 (x &&& 248)).set 31 ((y &&& 63)+64)=secB seed:=by rw [HSB.out];unfold clampB;rw [HRD.out,← take_getE h (i:=0) (by omega),← take_getE h (i:=31) (by omega),HRD.out,hx,hy]
 rw [hcl] at e2
 have HR9:Hid (RowsW ((Wq2.setCell ⟨(g0+1),0,none⟩ (.int .u8 ((x &&& 248).toNat:Int))).setCell ⟨(g0+1),31,none⟩ (.int .u8 (((y &&& 63)+64).toNat:Int))) [(gq1,(arrB h),24),((g0+1+1),(arrB S0),22),((g0+1),arrB (secB seed),22),(g0,(arrB seed),22)]):=yh (by
  rw [e2]
  exact ⟨(by rw [setRow_other _ _ _ _ (Ne.symm NEq1_1.out)];exact s1.head),(by rw [setRow_other _ _ _ _ (Ne.symm (by omega))];exact s1.tail.head),setRow_heap _ _ _ _ _ _ r1,(by rw [setRow_other _ _ _ _ (by omega)];exact s1.tail.tail.tail.head),trivial⟩)
 have HB9:=yh ((HBq2_1.out.setCell (p:=⟨(g0+1),0,none⟩) (by show w.heap.size≤(g0+1);exact (by have:=HG0.out;omega)) (.int .u8 ((x &&& 248).toNat:Int))).setCell (p:=⟨(g0+1),31,none⟩) (by show w.heap.size≤(g0+1);exact (by have:=HG0.out;omega)) (.int .u8 (((y &&& 63)+64).toNat:Int)))
 clear e1 e2 s1 hcl hy2 r1 r0 hx hy
 obtain ⟨p_,hp_⟩:∃ p:Int,((x &&& 248).toNat:Int)=p:=⟨_,rfl⟩
 obtain ⟨q_,hq_⟩:∃ q:Int,((y &&& 127).toNat:Int)=q:=⟨_,rfl⟩
 obtain ⟨z_,hz_⟩:∃ q:Int,(((y &&& 63)+64).toNat:Int)=q:=⟨_,rfl⟩
 rw [hp_] at a0 HR9 HB9 c1 f1
 rw [hq_] at a1 a2
 rw [hz_] at a2 HR9 HB9
 clear hp_ hq_ hz_
 go_upto_region 5 with fail
 obtain ⟨W9,hW9⟩:∃ W,(Wq2.setCell ⟨(g0+1),0,none⟩ (.int .u8 p_)).setCell ⟨(g0+1),31,none⟩ (.int .u8 z_)=W:=⟨_,rfl⟩
 rw [hW9] at HR9 HB9
 rw [hW9]
 clear hW9 c0 f0 c1 f1 a0 a1 a2
 have HRq3:=yh (HR9.out.below (Below.refl _ _).drew)
 have HBq3:=yh (zaa HB9.out (Below.refl _ _).drew)
 have lsq3_0:=HRq3.out.tail.tail.head
 have HRq3_0:Hid (RowsW (W9.drew.setRow (g0+1) (arrB (secB seed))) [(gq1,(arrB h),24),((g0+1+1),(arrB S0),22),((g0+1),(arrB (secB seed)),22),(g0,(arrB seed),22)]):=yh ⟨(by rw [setRow_other _ _ _ _ (Ne.symm NEq1_1.out)];exact HRq3.out.head),(by rw [setRow_other _ _ _ _ (Ne.symm (by omega))];exact HRq3.out.tail.head),setRow_heap _ _ _ _ _ _ lsq3_0,(by rw [setRow_other _ _ _ _ (by omega)];exact HRq3.out.tail.tail.tail.head),trivial⟩
 have HBq3_0:=yh (zac (g:=(g0+1)) (cs:=(arrB (secB seed))) HBq3.out (by have:=HG0.out;omega))
 have lsq3_1:=HRq3_0.out.tail.head
 have HRq3_1:Hid (RowsW ((W9.drew.setRow (g0+1) (arrB (secB seed))).setRow (g0+1+1) (arrB S0)) [(gq1,(arrB h),24),((g0+1+1),(arrB S0),22),((g0+1),(arrB (secB seed)),22),(g0,(arrB seed),22)]):=yh ⟨(by rw [setRow_other _ _ _ _ (Ne.symm NEq1_2.out)];exact HRq3_0.out.head),setRow_heap _ _ _ _ _ _ lsq3_1,(by rw [setRow_other _ _ _ _ (by omega)];exact HRq3_0.out.tail.tail.head),(by rw [setRow_other _ _ _ _ (by omega)];exact HRq3_0.out.tail.tail.tail.head),trivial⟩
 have HBq3_1:=yh (zac (g:=(g0+1+1)) (cs:=(arrB S0)) HBq3_0.out (by have:=HG0.out;omega))
 refine wp_region_noPanic ?_
 refine wp_region_held_drew (S:=fun W=>W.heap[(g0+1)]?=some (.cells (arrB (secB seed)) 22 (0,0))∧W.heap[(g0+1+1)]?=some (.cells (arrB S0) 22 (0,0))) (by kernel_rfl) (by exact ⟨HRq3.out.tail.tail.head,HRq3.out.tail.head⟩) (fun hS=>?_)
 refine' yk 0  hS ?_ (hy:=fun W hSW=>zad rfl rfl hSW.1 Tryz.underlying22 rfl (zaf (zaQ seed)))
 refine' yk 1  hS ?_ (hy:=fun W hSW=>zad rfl rfl hSW.2 Tryz.underlying22 rfl (zaf HSL.out))
 refine xk 2  (fun K hK=>?_)
 refine wp_store_row 22 (.tmp 2) (.tmp 23) rfl (g0+1) (arrB (secB seed)) rfl rfl 22 (arrB (secB seed)) lsq3_0 (zaf (zaQ seed)) rfl (zap _) ?_
 refine hK.out _ _ (by exact ⟨HRq3_0.out.tail.tail.head,HRq3_0.out.tail.head⟩) (fun hS=>?_)
 clear hK K
 refine xk 3  (fun K hK=>?_)
 refine wp_store_row 22 (.tmp 3) (.tmp 24) rfl (g0+1+1) (arrB S0) rfl rfl 22 (arrB S0) lsq3_1 (zaf HSL.out) rfl (zap _) ?_
 refine hK.out _ _ (by exact ⟨HRq3_1.out.tail.tail.head,HRq3_1.out.tail.head⟩) (fun hS=>?_)
 clear hK K
 refine wpAnyH_done (by kernel_rfl) ?_ _
 refine NoPanic.normal ?_
 (try clear hS)
 (try simp only [Act.put])
 obtain ⟨Wq3,hWq3⟩:∃ W,((W9.drew.setRow (g0+1) (arrB (secB seed))).setRow (g0+1+1) (arrB S0))=W:=⟨_,rfl⟩
 rw [hWq3] at HRq3_1 HBq3_1
 (try rw [hWq3])
 clear hWq3 lsq3_0 lsq3_1
 go_wp2_with fail
 (try simp only [Exit.inBlock,Exit.then])
 refine bodyPost_ret (results_2c rfl _ _ (g0+1) (g0+1+1) _ _ (arrB (secB seed)) (arrB S0) _ _ _ _ rfl rfl HRq3_1.out.tail.tail.head HRq3_1.out.tail.head Tryz.underlying22 rfl (zaf (zaQ seed)) Tryz.underlying22 rfl (zaf HSL.out)) rfl ?_
 exact ⟨by rw [HSA.out,HSD.out],HBq3_1.out⟩
theorem epublic_any {R:Array Value→PtD→Prop} (D:PtV R) (M:MuC R) (seed:List UInt8) (hs:seed.length=32) (w:World):Calls Tryz.prog 14 #[.agg (arrB seed)] w (RetV w (.agg (arrB (pubB seed)))):=by
 have HSE:=yh hs
 clear hs
 have hz32:=zaq
 have hz64:=zer64_zero
 have HR0:=yh (((RowsW.nil w).box (arrB seed) 22).box zag 22)
 have HB0:=yh (zae (zae (Below.refl w.heap.size w) (arrB seed) 22) zag 22)
 rw [World.size_alloc] at HR0
 go_enter Tryz.func14,Tryz.ntmps14
 go_upto_region 1 with fail
 obtain ⟨W0,hW0⟩:∃ W,((w.alloc (.cells (arrB seed) 22)).alloc (.cells zag 22))=W:=⟨_,rfl⟩
 obtain ⟨g0,hg0⟩:∃ g,w.heap.size=g:=⟨_,rfl⟩
 rw [hW0] at HR0 HB0
 rw [hg0] at HR0
 rw [hW0]
 (try rw [hg0])
 have HG0:=yh hg0
 clear hW0 hg0
 have l1:=HR0.out.tail.head
 go_wp2_with (refine yi l1 Tryz.underlying22 (zaf HSE.out) ?_)
 with_reducible refine ((fun W=>esecrets_any seed HSE.out W) _).mono ?_
 rintro e vq2 ⟨rfl,hbq2⟩
 have HRq2:=yh (HR0.out.below hbq2)
 have HBq2:=yh (zaa HB0.out hbq2)
 clear hbq2
 have haq3:=heap_new2a vq2 zag zag 22 22
 have hbbq3:=heap_new2b vq2 zag zag (arrB (secB seed)) 22 22
 have HRq3:=yh (HRq2.out.new2 zag (arrB (secB seed)) zag (arrB (saltB seed)) 22 22)
 have HBq3:=yh (below_new2 HBq2.out zag (arrB (secB seed)) zag (arrB (saltB seed)) 22 22)
 have HNq3:=yh HRq2.out.ne
 have HGq3:=yh HBq2.out.size
 have HLq3_0:Hid (g0<vq2.heap.size):=yh (by have h:=HRq2.out.lt (g0,(arrB seed),22) (by simp);exact h)
 have HLq3_1:Hid ((g0+1)<vq2.heap.size):=yh (by have h:=HRq2.out.lt ((g0+1),zag,22) (by simp);exact h)
 go_upto_region 2 with (first
   | (refine yj (arrB (secB seed)) haq3 (zaf (zaQ seed)) (zar (zaQ seed)) (zap _) ?_)
   | (refine yj (arrB (saltB seed)) hbbq3 (zaf (saltB_len seed)) (zar (saltB_len seed)) (zap _) ?_))
 obtain ⟨Wq3,hWq3⟩:∃ W,(((vq2.alloc (.cells zag 22)).alloc (.cells zag 22)).setRow vq2.heap.size (arrB (secB seed))).setRow (vq2.heap.size+1) (arrB (saltB seed))=W:=⟨_,rfl⟩
 obtain ⟨gq4,hgq4⟩:∃ g,vq2.heap.size=g:=⟨_,rfl⟩
 obtain ⟨gq5,hgq5⟩:∃ g,gq4+1=g:=⟨_,rfl⟩
 rw [hWq3,hgq4,hgq5] at HRq3
 rw [hWq3] at HBq3
 rw [hgq4] at HGq3 HNq3 HLq3_0 HLq3_1
 rw [hWq3,hgq4,hgq5]
 have NEq4_0:Hid (g0≠gq4):=yh (by have:=HLq3_0.out;omega)
 have NEq5_0:Hid (g0≠gq5):=yh (by have:=HLq3_0.out;omega)
 have NEq4_1:Hid ((g0+1)≠gq4):=yh (by have:=HLq3_1.out;omega)
 have NEq5_1:Hid ((g0+1)≠gq5):=yh (by have:=HLq3_1.out;omega)
 have NEq5_2:Hid (gq4≠gq5):=yh (by omega)
 have HGq4:Hid (w.heap.size≤gq4):=yh HGq3.out
 have HGq5:Hid (w.heap.size≤gq5):=yh (by have:=HGq3.out;omega)
 clear hWq3 hgq4 hgq5 haq3 hbbq3 HNq3 HGq3 HLq3_0 HLq3_1
 have l6:=HRq3.out.tail.head
 go_wp2_with (refine yi l6 Tryz.underlying22 (zaf (zaQ seed)) ?_)
 have o11:∀ W:World,Calls Tryz.prog 23 #[.agg (arrB (secB seed))] W (RetV W (.agg (arrB (pubB seed)))):=fun W=>emultiple_any D M (secB seed) (zaQ seed) W
 with_reducible refine ((fun W=>o11 W) _).mono ?_
 rintro e vq7 ⟨rfl,hbq7⟩
 have HRq7:=yh (HRq3.out.below hbq7)
 have HBq7:=yh (zaa HBq3.out hbq7)
 clear hbq7
 have lsq8:=HRq7.out.tail.tail.head
 have HRq8:Hid (RowsW (vq7.setRow (g0+1) (arrB (pubB seed))) [(gq5,(arrB (saltB seed)),22),(gq4,(arrB (secB seed)),22),((g0+1),(arrB (pubB seed)),22),(g0,(arrB seed),22)]):=yh ⟨(by rw [setRow_other _ _ _ _ (Ne.symm NEq5_1.out)];exact HRq7.out.head),(by rw [setRow_other _ _ _ _ (Ne.symm NEq4_1.out)];exact HRq7.out.tail.head),setRow_heap _ _ _ _ _ _ lsq8,(by rw [setRow_other _ _ _ _ (by omega)];exact HRq7.out.tail.tail.tail.head),trivial⟩
 have HBq8:=yh (zac (g:=(g0+1)) (cs:=(arrB (pubB seed))) HBq7.out (by have:=HG0.out;omega))
 go_wp2_with (refine yj (arrB (pubB seed)) lsq8 (zaf (pubB_len _)) (zar (pubB_len _)) (zap _) ?_)
 obtain ⟨Wq8,hWq8⟩:∃ W,vq7.setRow (g0+1) (arrB (pubB seed))=W:=⟨_,rfl⟩
 rw [hWq8] at HRq8 HBq8
 (try rw [hWq8])
 clear hWq8 lsq8
 (try simp only [Exit.inBlock,Exit.then])
 refine bodyPost_ret (results_cell_row rfl _ _ (g0+1) _ (arrB (pubB seed)) _ _ rfl HRq8.out.tail.tail.head Tryz.underlying22 rfl (zaf (pubB_len _))) rfl ?_
 exact ⟨rfl,HBq8.out⟩
theorem esign_any {R:Array Value→PtD→Prop} (D:PtV R) (M:MuC R) (seed:List UInt8) (hs:seed.length=32) (C:Option Addr) (c:List UInt8) (n k:Nat) (hn:c.length=n) (hcl:c.length≤1000) (sum:List UInt8) (hsu:sum.length=64) (w:World) (hc:Bs w C c) :
  Calls Tryz.prog 10 #[.agg (arrB seed),.slice C n k,.agg (arrB sum)] w (RetV w (.tuple #[.agg (arrB (sigR seed c sum)),.int .i64 (if 255<c.length then 1 else 0)])):=by
 have HSE:=yh hs
 have HSU:=yh hsu
 clear hs hsu
 obtain ⟨ec,hec⟩:∃ e:Int,(if 255<c.length then (1:Int) else 0)=e:=⟨_,rfl⟩
 rw [hec]
 have HEC:=yh hec
 clear hec
 have hz32:=zaq
 have hz64:=zer64_zero
 have HC:=yh hc
 have HCN:=yh hn
 have HCL:=yh hcl
 clear hc hn hcl
 obtain ⟨pn,hpn⟩:∃ y_,(prefB c).length=y_:=⟨_,rfl⟩
 have HPN:=yh hpn
 have HPL:Hid ((prefB c).length≤1100):=yh (prefB_le HCL.out)
 clear hpn
 have HR0:=yh ((((RowsW.nil w).box (arrB seed) 22).box (arrB sum) 24).box zer64 24)
 have HB0:=yh (zae (zae (zae (Below.refl w.heap.size w) (arrB seed) 22) (arrB sum) 24) zer64 24)
 rw [World.size_alloc,World.size_alloc] at HR0
 go_enter Tryz.func10,Tryz.ntmps10
 go_upto_region 1 with fail
 obtain ⟨W0,hW0⟩:∃ W,(((w.alloc (.cells (arrB seed) 22)).alloc (.cells (arrB sum) 24)).alloc (.cells zer64 24))=W:=⟨_,rfl⟩
 obtain ⟨g0,hg0⟩:∃ g,w.heap.size=g:=⟨_,rfl⟩
 rw [hW0] at HR0 HB0
 rw [hg0] at HR0
 rw [hW0]
 (try rw [hg0])
 have HG0:=yh hg0
 clear hW0 hg0
 by_cases hb:255<n
 ·have d1:decide ((255:Int)<(n:Int))=true:=decide_eq_true (by omega)
  have HBC:Hid (255<c.length):=yh (by rw [HCN.out];exact hb)
  clear hb
  go_upto_region 2 with fail
  have lsq1:=HR0.out.head
  have HRq1:Hid (RowsW (W0.setRow (g0+1+1) zer64) [((g0+1+1),zer64,24),((g0+1),(arrB sum),24),(g0,(arrB seed),22)]):=yh ⟨setRow_heap _ _ _ _ _ _ lsq1,(by rw [setRow_other _ _ _ _ (by omega)];exact HR0.out.tail.head),(by rw [setRow_other _ _ _ _ (by omega)];exact HR0.out.tail.tail.head),trivial⟩
  have HBq1:=yh (zac (g:=(g0+1+1)) (cs:=zer64) HB0.out (by have:=HG0.out;omega))
  go_wp2_with (first
    | (refine zaG (o:=⟨some 19,_,_,_,_,_⟩) rfl (.agg zer64) (run_emp64 rfl _) ?_)
    | (refine yj zer64 lsq1 (zaP (by simp)) rfl (zap _) ?_))
  obtain ⟨Wq1,hWq1⟩:∃ W,W0.setRow (g0+1+1) zer64=W:=⟨_,rfl⟩
  rw [hWq1] at HRq1 HBq1
  (try rw [hWq1])
  clear hWq1 lsq1
  (try simp only [Exit.inBlock,Exit.then])
  refine bodyPost_ret (zaE rfl _ _ (g0+1+1) _ zer64 _ _ (.int .i64 1) rfl rfl HRq1.out.head Tryz.underlying24 rfl (zaP (by simp))) rfl ?_
  exact ⟨by rw [← HEC.out,if_pos HBC.out];unfold sigR;rw [if_pos HBC.out];rfl,HBq1.out⟩
 ·have d1:decide ((255:Int)<(n:Int))=false:=decide_eq_false (by omega)
  have HBC:Hid (¬ 255<c.length):=yh (by rw [HCN.out];exact hb)
  have HPP:Hid (0<pn):=yh (by rw [← HPN.out];unfold prefB;rw [if_neg HBC.out];simp [domB])
  clear hb
  go_upto_region 3 with fail
  go_wp2_with fail
  have hltq2:=HR0.out.lt
  with_reducible refine (eprefix_any C c n k HCN.out HCL.out _ (HC.out.below HB0.out)).mono ?_
  rintro e vq2 ⟨xq2,rfl,hoq2,hbq2⟩
  obtain ⟨gq2,kq2,cq2,rfl,hgeq2,hrowq2,hcurq2⟩:=hoq2.rowN HPN.out HPP.out
  have CPq2:=yh hoq2.cap
  have HRq2:Hid (RowsW vq2 [(gq2,cq2,5),((g0+1+1),zer64,24),((g0+1),(arrB sum),24),(g0,(arrB seed),22)]):=yh ⟨hrowq2,HR0.out.below hbq2⟩
  have HBq2:=yh (zaa HB0.out hbq2)
  have CUq2:=yh hcurq2
  have HGq2:=yh (Nat.le_trans HB0.out.size hgeq2)
  have NEq2_0:Hid (g0≠gq2):=yh (by have h:=hltq2 (g0,(arrB seed),22) (by simp);have:=hgeq2;simp only at h;omega)
  have NEq2_1:Hid ((g0+1)≠gq2):=yh (by have h:=hltq2 ((g0+1),(arrB sum),24) (by simp);have:=hgeq2;simp only at h;omega)
  have NEq2_2:Hid ((g0+1+1)≠gq2):=yh (by have h:=hltq2 ((g0+1+1),zer64,24) (by simp);have:=hgeq2;simp only at h;omega)
  clear hltq2 hoq2 hbq2 hgeq2 hrowq2 hcurq2
  go_upto_region 4 with fail
  have l3:=HRq2.out.tail.tail.tail.head
  go_wp2_with (refine yi l3 Tryz.underlying22 (zaf HSE.out) ?_)
  with_reducible refine ((fun W=>esecrets_any seed HSE.out W) _).mono ?_
  rintro e vq4 ⟨rfl,hbq4⟩
  have HRq4:=yh (HRq2.out.below hbq4)
  have HBq4:=yh (zaa HBq2.out hbq4)
  clear hbq4
  have haq5:=heap_new2a vq4 zag zag 22 22
  have hbbq5:=heap_new2b vq4 zag zag (arrB (secB seed)) 22 22
  have HRq5:=yh (HRq4.out.new2 zag (arrB (secB seed)) zag (arrB (saltB seed)) 22 22)
  have HBq5:=yh (below_new2 HBq4.out zag (arrB (secB seed)) zag (arrB (saltB seed)) 22 22)
  have HNq5:=yh HRq4.out.ne
  have HGq5:=yh HBq4.out.size
  have HLq5_0:Hid (g0<vq4.heap.size):=yh (by have h:=HRq4.out.lt (g0,(arrB seed),22) (by simp);exact h)
  have HLq5_1:Hid ((g0+1)<vq4.heap.size):=yh (by have h:=HRq4.out.lt ((g0+1),(arrB sum),24) (by simp);exact h)
  have HLq5_2:Hid ((g0+1+1)<vq4.heap.size):=yh (by have h:=HRq4.out.lt ((g0+1+1),zer64,24) (by simp);exact h)
  have HLq5_3:Hid (gq2<vq4.heap.size):=yh (by have h:=HRq4.out.lt (gq2,cq2,5) (by simp);exact h)
  go_upto_region 5 with (first
    | (refine yj (arrB (secB seed)) haq5 (zaf (zaQ seed)) (zar (zaQ seed)) (zap _) ?_)
    | (refine yj (arrB (saltB seed)) hbbq5 (zaf (saltB_len seed)) (zar (saltB_len seed)) (zap _) ?_))
  obtain ⟨Wq5,hWq5⟩:∃ W,(((vq4.alloc (.cells zag 22)).alloc (.cells zag 22)).setRow vq4.heap.size (arrB (secB seed))).setRow (vq4.heap.size+1) (arrB (saltB seed))=W:=⟨_,rfl⟩
  obtain ⟨gq6,hgq6⟩:∃ g,vq4.heap.size=g:=⟨_,rfl⟩
  obtain ⟨gq7,hgq7⟩:∃ g,gq6+1=g:=⟨_,rfl⟩
  rw [hWq5,hgq6,hgq7] at HRq5
  rw [hWq5] at HBq5
  rw [hgq6] at HGq5 HNq5 HLq5_0 HLq5_1 HLq5_2 HLq5_3
  rw [hWq5,hgq6,hgq7]
  have NEq6_0:Hid (g0≠gq6):=yh (by have:=HLq5_0.out;omega)
  have NEq7_0:Hid (g0≠gq7):=yh (by have:=HLq5_0.out;omega)
  have NEq6_1:Hid ((g0+1)≠gq6):=yh (by have:=HLq5_1.out;omega)
  have NEq7_1:Hid ((g0+1)≠gq7):=yh (by have:=HLq5_1.out;omega)
  have NEq6_2:Hid ((g0+1+1)≠gq6):=yh (by have:=HLq5_2.out;omega)
  have NEq7_2:Hid ((g0+1+1)≠gq7):=yh (by have:=HLq5_2.out;omega)
  have NEq6_3:Hid (gq2≠gq6):=yh (by have:=HLq5_3.out;omega)
  have NEq7_3:Hid (gq2≠gq7):=yh (by have:=HLq5_3.out;omega)
  have NEq7_4:Hid (gq6≠gq7):=yh (by omega)
  have HGq6:Hid (w.heap.size≤gq6):=yh HGq5.out
  have HGq7:Hid (w.heap.size≤gq7):=yh (by have:=HGq5.out;omega)
  clear hWq5 hgq6 hgq7 haq5 hbbq5 HNq5 HGq5 HLq5_0 HLq5_1 HLq5_2 HLq5_3
  have l8:=HRq5.out.tail.head
  go_wp2_with (refine yi l8 Tryz.underlying22 (zaf (zaQ seed)) ?_)
  have o28:∀ W:World,Calls Tryz.prog 23 #[.agg (arrB (secB seed))] W (RetV W (.agg (arrB (pubB seed)))):=fun W=>emultiple_any D M (secB seed) (zaQ seed) W
  with_reducible refine ((fun W=>o28 W) _).mono ?_
  rintro e vq9 ⟨rfl,hbq9⟩
  have HRq9:=yh (HRq5.out.below hbq9)
  have HBq9:=yh (zaa HBq5.out hbq9)
  clear hbq9
  have h0q10:(vq9.alloc (.cells zag 22)).heap[vq9.heap.size]?=some (.cells zag 22 (0,0)):=heap_alloc_new _ _
  have HRq10:=yh (HRq9.out.new zag (arrB (pubB seed)) 22)
  have HBq10:=yh (zau HBq9.out zag (arrB (pubB seed)) 22)
  have HNq10:=yh HRq9.out.ne
  have HGq10:=yh HBq9.out.size
  go_upto_region 6 with (refine yj (arrB (pubB seed)) h0q10 (zaf (pubB_len _)) (zar (pubB_len _)) (zap _) ?_)
  obtain ⟨Wq10,hWq10⟩:∃ W,(vq9.alloc (.cells zag 22)).setRow vq9.heap.size (arrB (pubB seed))=W:=⟨_,rfl⟩
  obtain ⟨gq10,hgq10⟩:∃ g,vq9.heap.size=g:=⟨_,rfl⟩
  rw [hWq10,hgq10] at HRq10
  rw [hWq10] at HBq10
  rw [hgq10] at HNq10 HGq10
  rw [hWq10,hgq10]
  clear hWq10 hgq10 h0q10
  have NEq10_0:Hid (g0≠gq10):=yh (HNq10.out (g0,(arrB seed),22) (by simp))
  have NEq10_1:Hid ((g0+1)≠gq10):=yh (HNq10.out ((g0+1),(arrB sum),24) (by simp))
  have NEq10_2:Hid ((g0+1+1)≠gq10):=yh (HNq10.out ((g0+1+1),zer64,24) (by simp))
  have NEq10_3:Hid (gq2≠gq10):=yh (HNq10.out (gq2,cq2,5) (by simp))
  have NEq10_4:Hid (gq6≠gq10):=yh (HNq10.out (gq6,(arrB (secB seed)),22) (by simp))
  have NEq10_5:Hid (gq7≠gq10):=yh (HNq10.out (gq7,(arrB (saltB seed)),22) (by simp))
  refine wp_region_noPanic ?_
  refine zaY 5 12 22 zag (by kernel_rfl) (by kernel_rfl) ⟨by kernel_rfl,by kernel_rfl,hz32,fun _ _ _ h=>h⟩ (fun hA ok hS=>?_)
  refine' zaN 0 hA ok rfl (by kernel_rfl) (by kernel_rfl) (by kernel_rfl) (by kernel_rfl) (by kernel_rfl) (by rfl) (by rfl) hS ?_ ?_ ?_
  rotate_left 2
  ·intro W hSW;go_simp;try with_reducible rfl
  ·simp only [List.set_cons_succ,List.set_cons_zero];rfl
  refine' zaN 1 hA ok rfl (by kernel_rfl) (by kernel_rfl) (by kernel_rfl) (by kernel_rfl) (by kernel_rfl) (by rfl) (by rfl) hS ?_ ?_ ?_
  rotate_left 2
  ·intro W hSW;go_simp;try with_reducible rfl
  ·simp only [List.set_cons_succ,List.set_cons_zero];rfl
  refine' zaN 2 hA ok rfl (by kernel_rfl) (by kernel_rfl) (by kernel_rfl) (by kernel_rfl) (by kernel_rfl) (by rfl) (by rfl) hS ?_ ?_ ?_
  rotate_left 2
  ·intro W hSW;go_simp;try with_reducible rfl
  ·simp only [List.set_cons_succ,List.set_cons_zero];rfl
  refine zaZ 3 hA ok rfl (by kernel_rfl) (by kernel_rfl) (by kernel_rfl) (by kernel_rfl) (by rfl) (by rfl) hS (fun oq11 Xq11 hS K hK=>?_)
  go_simp
  have hrq11:(Xq11.alloc (Obj.cells #[.slice (some ⟨gq2,0,none⟩) pn kq2,.slice (some ⟨gq7,0,none⟩) 32 32,.slice (some ⟨(g0+1),0,none⟩) 64 64] 23)).heap[Xq11.heap.size]?=some (Obj.cells #[.slice (some ⟨gq2,0,none⟩) pn kq2,.slice (some ⟨gq7,0,none⟩) 32 32,.slice (some ⟨(g0+1),0,none⟩) 64 64] 23 (0,0)):=heap_alloc_new _ _
  refine hK.out _ _ (by exact (Below.refl _ _).alloc (Nat.le_refl _) _) (fun hS=>?_)
  clear hK K
  refine XS.mono (S2:=fun W=>(Below Wq10.heap.size Wq10 W)∧∃ fr,W.heap[Xq11.heap.size]?=some (Obj.cells #[.slice (some ⟨gq2,0,none⟩) pn kq2,.slice (some ⟨gq7,0,none⟩) 32 32,.slice (some ⟨(g0+1),0,none⟩) 64 64] 23 fr)) (fun _ h=>h.1) ?_
  replace ok:=ok.rowe (g:=Xq11.heap.size) (cs:=#[.slice (some ⟨gq2,0,none⟩) pn kq2,.slice (some ⟨gq7,0,none⟩) 32 32,.slice (some ⟨(g0+1),0,none⟩) 64 64]) (T':=23) (by decide)
  replace hS:HS _ _ _ (fun W=>(Below Wq10.heap.size Wq10 W)∧∃ fr,W.heap[Xq11.heap.size]?=some (Obj.cells #[.slice (some ⟨gq2,0,none⟩) pn kq2,.slice (some ⟨gq7,0,none⟩) 32 32,.slice (some ⟨(g0+1),0,none⟩) 64 64] 23 fr)) _ _:=⟨⟨HS.s hS,(0,0),hrq11⟩,hS.2⟩
  clear hrq11
  refine zaZ 4 hA ok rfl (by kernel_rfl) (by kernel_rfl) (by kernel_rfl) (by kernel_rfl) (by rfl) (by rfl) hS (fun oq12 Xq12 hS K hK=>?_)
  obtain ⟨j13,hj13⟩:∃ y_:List UInt8,(prefB c)++(saltB seed)++sum=y_:=⟨_,rfl⟩
  have Hj13:=yh hj13
  have HBj13:Hid (j13.length≤2000):=yh (by rw [← hj13];simp only [List.length_append,(saltB_len seed),HSU.out];have:=HPL.out;omega)
  clear hj13
  obtain ⟨n14,hn14⟩:∃ x_:Nat,leN (zaM j13) % LL=x_:=⟨_,rfl⟩
  have Hn14:=yh hn14
  have HMn14:Hid (n14<256^32):=yh (by rw [← hn14];exact modLL_E _)
  clear hn14
  obtain ⟨frq12,hfrq12⟩:=((HS.s hS).2)
  have kq12:=enum3 HPN.out (saltB_len seed) HSU.out CPq2.out (Nat.le_refl _) (Nat.le_refl _) Hj13.out HBj13.out hfrq12 (srow_bs ((HRq10.out.below (ok.low _ (HS.s hS))).tail.tail.tail.head) CUq2.out HPN.out) (row_bs ((HRq10.out.below (ok.low _ (HS.s hS))).tail.head)) (row_bs ((HRq10.out.below (ok.low _ (HS.s hS))).tail.tail.tail.tail.tail.head))
  rw [Hn14.out] at kq12
  go_simp
  with_reducible refine kq12.mono ?_
  rintro e vq12 ⟨rfl,hbq12⟩
  refine hK.out _ _ hbq12 (fun hS=>?_)
  clear hK K hbq12
  refine' store_atS 6 hA ok rfl (by kernel_rfl) (by kernel_rfl) (by kernel_rfl) hS (by kernel_rfl) rfl (by intro h;cases h) (zaI _) (zero32_byt _) (bytT_one _) ?_ ?_
  rotate_left 1
  ·intro g;simp only [List.set_cons_succ,List.set_cons_zero];rfl
  intro gq15 Wq15 hgq15 hsq15 hrowq15
  have hbq15:=ok.low _ hsq15
  clear hA hS
  refine wpAnyH_done (by kernel_rfl) ?_ _
  refine NoPanic.normal ?_
  (try simp only [Act.put])
  have HRq15:Hid (RowsW Wq15 [(gq15,(bytT n14),22),(gq10,(arrB (pubB seed)),22),(gq7,(arrB (saltB seed)),22),(gq6,(arrB (secB seed)),22),(gq2,cq2,5),((g0+1+1),zer64,24),((g0+1),(arrB sum),24),(g0,(arrB seed),22)]):=yh ⟨hrowq15,HRq10.out.below hbq15⟩
  have HBq15:=yh (zaa HBq10.out hbq15)
  have NEq15_0:Hid (g0≠gq15):=yh (by have h:=HRq10.out.lt (g0,(arrB seed),22) (by simp);have:=hgq15;simp only at h;omega)
  have NEq15_1:Hid ((g0+1)≠gq15):=yh (by have h:=HRq10.out.lt ((g0+1),(arrB sum),24) (by simp);have:=hgq15;simp only at h;omega)
  have NEq15_2:Hid ((g0+1+1)≠gq15):=yh (by have h:=HRq10.out.lt ((g0+1+1),zer64,24) (by simp);have:=hgq15;simp only at h;omega)
  have NEq15_3:Hid (gq2≠gq15):=yh (by have h:=HRq10.out.lt (gq2,cq2,5) (by simp);have:=hgq15;simp only at h;omega)
  have NEq15_4:Hid (gq6≠gq15):=yh (by have h:=HRq10.out.lt (gq6,(arrB (secB seed)),22) (by simp);have:=hgq15;simp only at h;omega)
  have NEq15_5:Hid (gq7≠gq15):=yh (by have h:=HRq10.out.lt (gq7,(arrB (saltB seed)),22) (by simp);have:=hgq15;simp only at h;omega)
  have NEq15_6:Hid (gq10≠gq15):=yh (by have h:=HRq10.out.lt (gq10,(arrB (pubB seed)),22) (by simp);have:=hgq15;simp only at h;omega)
  have HGq15:=yh (Nat.le_trans HBq10.out.size hgq15)
  clear hrowq15 hbq15 hgq15 hsq15 ok
  go_upto_region 7 with fail
  have l16:=HRq15.out.head
  go_wp2_with (refine yi l16 Tryz.underlying22 (zaI _) ?_)
  have o35:∀ W:World,Calls Tryz.prog 23 #[.agg (bytT n14)] W (RetV W (.agg (arrB (mulB n14)))):=fun W=>by have h:=emultiple_any D M (leB 32 n14) (zav 32 n14) W;rw [leN_leB 32 n14 HMn14.out] at h;exact h
  with_reducible refine ((fun W=>o35 W) _).mono ?_
  rintro e vq17 ⟨rfl,hbq17⟩
  have HRq17:=yh (HRq15.out.below hbq17)
  have HBq17:=yh (zaa HBq15.out hbq17)
  clear hbq17
  have h0q18:(vq17.alloc (.cells zag 22)).heap[vq17.heap.size]?=some (.cells zag 22 (0,0)):=heap_alloc_new _ _
  have HRq18:=yh (HRq17.out.new zag (arrB (mulB n14)) 22)
  have HBq18:=yh (zau HBq17.out zag (arrB (mulB n14)) 22)
  have HNq18:=yh HRq17.out.ne
  have HGq18:=yh HBq17.out.size
  go_upto_region 8 with (refine yj (arrB (mulB n14)) h0q18 (zaf (mulB_len _)) (zar (mulB_len _)) (zap _) ?_)
  obtain ⟨Wq18,hWq18⟩:∃ W,(vq17.alloc (.cells zag 22)).setRow vq17.heap.size (arrB (mulB n14))=W:=⟨_,rfl⟩
  obtain ⟨gq18,hgq18⟩:∃ g,vq17.heap.size=g:=⟨_,rfl⟩
  rw [hWq18,hgq18] at HRq18
  rw [hWq18] at HBq18
  rw [hgq18] at HNq18 HGq18
  rw [hWq18,hgq18]
  clear hWq18 hgq18 h0q18
  have NEq18_0:Hid (g0≠gq18):=yh (HNq18.out (g0,(arrB seed),22) (by simp))
  have NEq18_1:Hid ((g0+1)≠gq18):=yh (HNq18.out ((g0+1),(arrB sum),24) (by simp))
  have NEq18_2:Hid ((g0+1+1)≠gq18):=yh (HNq18.out ((g0+1+1),zer64,24) (by simp))
  have NEq18_3:Hid (gq2≠gq18):=yh (HNq18.out (gq2,cq2,5) (by simp))
  have NEq18_4:Hid (gq6≠gq18):=yh (HNq18.out (gq6,(arrB (secB seed)),22) (by simp))
  have NEq18_5:Hid (gq7≠gq18):=yh (HNq18.out (gq7,(arrB (saltB seed)),22) (by simp))
  have NEq18_6:Hid (gq10≠gq18):=yh (HNq18.out (gq10,(arrB (pubB seed)),22) (by simp))
  have NEq18_7:Hid (gq15≠gq18):=yh (HNq18.out (gq15,(bytT n14),22) (by simp))
  refine wp_region_noPanic ?_
  refine zaY 6 14 22 zag (by kernel_rfl) (by kernel_rfl) ⟨by kernel_rfl,by kernel_rfl,hz32,fun _ _ _ h=>h⟩ (fun hA ok hS=>?_)
  refine' zaN 0 hA ok rfl (by kernel_rfl) (by kernel_rfl) (by kernel_rfl) (by kernel_rfl) (by kernel_rfl) (by rfl) (by rfl) hS ?_ ?_ ?_
  rotate_left 2
  ·intro W hSW;go_simp;try with_reducible rfl
  ·simp only [List.set_cons_succ,List.set_cons_zero];rfl
  refine' zaN 1 hA ok rfl (by kernel_rfl) (by kernel_rfl) (by kernel_rfl) (by kernel_rfl) (by kernel_rfl) (by rfl) (by rfl) hS ?_ ?_ ?_
  rotate_left 2
  ·intro W hSW;go_simp;try with_reducible rfl
  ·simp only [List.set_cons_succ,List.set_cons_zero];rfl
  refine' zaN 2 hA ok rfl (by kernel_rfl) (by kernel_rfl) (by kernel_rfl) (by kernel_rfl) (by kernel_rfl) (by rfl) (by rfl) hS ?_ ?_ ?_
  rotate_left 2
  ·intro W hSW;go_simp;try with_reducible rfl
  ·simp only [List.set_cons_succ,List.set_cons_zero];rfl
  refine' zaN 3 hA ok rfl (by kernel_rfl) (by kernel_rfl) (by kernel_rfl) (by kernel_rfl) (by kernel_rfl) (by rfl) (by rfl) hS ?_ ?_ ?_
  rotate_left 2
  ·intro W hSW;go_simp;try with_reducible rfl
  ·simp only [List.set_cons_succ,List.set_cons_zero];rfl
  refine zaZ 4 hA ok rfl (by kernel_rfl) (by kernel_rfl) (by kernel_rfl) (by kernel_rfl) (by rfl) (by rfl) hS (fun oq19 Xq19 hS K hK=>?_)
  go_simp
  have hrq19:(Xq19.alloc (Obj.cells #[.slice (some ⟨gq2,0,none⟩) pn kq2,.slice (some ⟨gq18,0,none⟩) 32 32,.slice (some ⟨gq10,0,none⟩) 32 32,.slice (some ⟨(g0+1),0,none⟩) 64 64] 23)).heap[Xq19.heap.size]?=some (Obj.cells #[.slice (some ⟨gq2,0,none⟩) pn kq2,.slice (some ⟨gq18,0,none⟩) 32 32,.slice (some ⟨gq10,0,none⟩) 32 32,.slice (some ⟨(g0+1),0,none⟩) 64 64] 23 (0,0)):=heap_alloc_new _ _
  refine hK.out _ _ (by exact (Below.refl _ _).alloc (Nat.le_refl _) _) (fun hS=>?_)
  clear hK K
  refine XS.mono (S2:=fun W=>(Below Wq18.heap.size Wq18 W)∧∃ fr,W.heap[Xq19.heap.size]?=some (Obj.cells #[.slice (some ⟨gq2,0,none⟩) pn kq2,.slice (some ⟨gq18,0,none⟩) 32 32,.slice (some ⟨gq10,0,none⟩) 32 32,.slice (some ⟨(g0+1),0,none⟩) 64 64] 23 fr)) (fun _ h=>h.1) ?_
  replace ok:=ok.rowe (g:=Xq19.heap.size) (cs:=#[.slice (some ⟨gq2,0,none⟩) pn kq2,.slice (some ⟨gq18,0,none⟩) 32 32,.slice (some ⟨gq10,0,none⟩) 32 32,.slice (some ⟨(g0+1),0,none⟩) 64 64]) (T':=23) (by decide)
  replace hS:HS _ _ _ (fun W=>(Below Wq18.heap.size Wq18 W)∧∃ fr,W.heap[Xq19.heap.size]?=some (Obj.cells #[.slice (some ⟨gq2,0,none⟩) pn kq2,.slice (some ⟨gq18,0,none⟩) 32 32,.slice (some ⟨gq10,0,none⟩) 32 32,.slice (some ⟨(g0+1),0,none⟩) 64 64] 23 fr)) _ _:=⟨⟨HS.s hS,(0,0),hrq19⟩,hS.2⟩
  clear hrq19
  refine zaZ 5 hA ok rfl (by kernel_rfl) (by kernel_rfl) (by kernel_rfl) (by kernel_rfl) (by rfl) (by rfl) hS (fun oq20 Xq20 hS K hK=>?_)
  obtain ⟨j21,hj21⟩:∃ y_:List UInt8,(prefB c)++(mulB n14)++(pubB seed)++sum=y_:=⟨_,rfl⟩
  have Hj21:=yh hj21
  have HBj21:Hid (j21.length≤2000):=yh (by rw [← hj21];simp only [List.length_append,(mulB_len _),(pubB_len _),HSU.out];have:=HPL.out;omega)
  clear hj21
  obtain ⟨n22,hn22⟩:∃ x_:Nat,leN (zaM j21) % LL=x_:=⟨_,rfl⟩
  have Hn22:=yh hn22
  have HMn22:Hid (n22<256^32):=yh (by rw [← hn22];exact modLL_E _)
  clear hn22
  obtain ⟨frq20,hfrq20⟩:=((HS.s hS).2)
  have kq20:=enum4 HPN.out (mulB_len _) (pubB_len _) HSU.out CPq2.out (Nat.le_refl _) (Nat.le_refl _) (Nat.le_refl _) Hj21.out HBj21.out hfrq20 (srow_bs ((HRq18.out.below (ok.low _ (HS.s hS))).tail.tail.tail.tail.tail.head) CUq2.out HPN.out) (row_bs ((HRq18.out.below (ok.low _ (HS.s hS))).head)) (row_bs ((HRq18.out.below (ok.low _ (HS.s hS))).tail.tail.head)) (row_bs ((HRq18.out.below (ok.low _ (HS.s hS))).tail.tail.tail.tail.tail.tail.tail.head))
  rw [Hn22.out] at kq20
  go_simp
  with_reducible refine kq20.mono ?_
  rintro e vq20 ⟨rfl,hbq20⟩
  refine hK.out _ _ hbq20 (fun hS=>?_)
  clear hK K hbq20
  refine' store_atS 7 hA ok rfl (by kernel_rfl) (by kernel_rfl) (by kernel_rfl) hS (by kernel_rfl) rfl (by intro h;cases h) (zaI _) (zero32_byt _) (bytT_one _) ?_ ?_
  rotate_left 1
  ·intro g;simp only [List.set_cons_succ,List.set_cons_zero];rfl
  intro gq23 Wq23 hgq23 hsq23 hrowq23
  have hbq23:=ok.low _ hsq23
  clear hA hS
  refine wpAnyH_done (by kernel_rfl) ?_ _
  refine NoPanic.normal ?_
  (try simp only [Act.put])
  have HRq23:Hid (RowsW Wq23 [(gq23,(bytT n22),22),(gq18,(arrB (mulB n14)),22),(gq15,(bytT n14),22),(gq10,(arrB (pubB seed)),22),(gq7,(arrB (saltB seed)),22),(gq6,(arrB (secB seed)),22),(gq2,cq2,5),((g0+1+1),zer64,24),((g0+1),(arrB sum),24),(g0,(arrB seed),22)]):=yh ⟨hrowq23,HRq18.out.below hbq23⟩
  have HBq23:=yh (zaa HBq18.out hbq23)
  have NEq23_0:Hid (g0≠gq23):=yh (by have h:=HRq18.out.lt (g0,(arrB seed),22) (by simp);have:=hgq23;simp only at h;omega)
  have NEq23_1:Hid ((g0+1)≠gq23):=yh (by have h:=HRq18.out.lt ((g0+1),(arrB sum),24) (by simp);have:=hgq23;simp only at h;omega)
  have NEq23_2:Hid ((g0+1+1)≠gq23):=yh (by have h:=HRq18.out.lt ((g0+1+1),zer64,24) (by simp);have:=hgq23;simp only at h;omega)
  have NEq23_3:Hid (gq2≠gq23):=yh (by have h:=HRq18.out.lt (gq2,cq2,5) (by simp);have:=hgq23;simp only at h;omega)
  have NEq23_4:Hid (gq6≠gq23):=yh (by have h:=HRq18.out.lt (gq6,(arrB (secB seed)),22) (by simp);have:=hgq23;simp only at h;omega)
  have NEq23_5:Hid (gq7≠gq23):=yh (by have h:=HRq18.out.lt (gq7,(arrB (saltB seed)),22) (by simp);have:=hgq23;simp only at h;omega)
  have NEq23_6:Hid (gq10≠gq23):=yh (by have h:=HRq18.out.lt (gq10,(arrB (pubB seed)),22) (by simp);have:=hgq23;simp only at h;omega)
  have NEq23_7:Hid (gq15≠gq23):=yh (by have h:=HRq18.out.lt (gq15,(bytT n14),22) (by simp);have:=hgq23;simp only at h;omega)
  have NEq23_8:Hid (gq18≠gq23):=yh (by have h:=HRq18.out.lt (gq18,(arrB (mulB n14)),22) (by simp);have:=hgq23;simp only at h;omega)
  have HGq23:=yh (Nat.le_trans HBq18.out.size hgq23)
  clear hrowq23 hbq23 hgq23 hsq23 ok
  go_upto_region 9 with fail
  have l24:=HRq23.out.head
  have l25:=HRq23.out.tail.tail.tail.tail.tail.head
  have l26:=HRq23.out.tail.tail.head
  go_wp2_with (first
    | (refine yi l24 Tryz.underlying22 (zaI _) ?_)
    | (refine yi l25 Tryz.underlying22 (zaf (zaQ seed)) ?_)
    | (refine yi l26 Tryz.underlying22 (zaI _) ?_))
  obtain ⟨n27,hn27⟩:∃ x_:Nat,(n22*leN (secB seed)+n14) % LL=x_:=⟨_,rfl⟩
  have Hn27:=yh hn27
  have HMn27:Hid (n27<256^32):=yh (by rw [← hn27];exact modLL_E _)
  clear hn27
  have o45:∀ W:World,Calls Tryz.prog 25 #[.agg (bytT n22),.agg (arrB (secB seed)),.agg (bytT n14)] W (RetV W (.agg (bytT n27))):=fun W=>by have h:=scMulAdd_any (leB 32 n22) (secB seed) (leB 32 n14) (zav 32 n22) (zaQ seed) (zav 32 n14) W;rw [leN_leB 32 n22 HMn22.out,leN_leB 32 n14 HMn14.out,Hn27.out] at h;exact h
  with_reducible refine ((fun W=>o45 W) _).mono ?_
  rintro e vq28 ⟨rfl,hbq28⟩
  have HRq28:=yh (HRq23.out.below hbq28)
  have HBq28:=yh (zaa HBq23.out hbq28)
  clear hbq28
  have h0q29:(vq28.alloc (.cells zag 22)).heap[vq28.heap.size]?=some (.cells zag 22 (0,0)):=heap_alloc_new _ _
  have HRq29:=yh (HRq28.out.new zag (bytT n27) 22)
  have HBq29:=yh (zau HBq28.out zag (bytT n27) 22)
  have HNq29:=yh HRq28.out.ne
  have HGq29:=yh HBq28.out.size
  go_upto_region 10 with (refine yj (bytT n27) h0q29 (zaI _) (zero32_byt _) (bytT_one _) ?_)
  obtain ⟨Wq29,hWq29⟩:∃ W,(vq28.alloc (.cells zag 22)).setRow vq28.heap.size (bytT n27)=W:=⟨_,rfl⟩
  obtain ⟨gq29,hgq29⟩:∃ g,vq28.heap.size=g:=⟨_,rfl⟩
  rw [hWq29,hgq29] at HRq29
  rw [hWq29] at HBq29
  rw [hgq29] at HNq29 HGq29
  rw [hWq29,hgq29]
  clear hWq29 hgq29 h0q29
  have NEq29_0:Hid (g0≠gq29):=yh (HNq29.out (g0,(arrB seed),22) (by simp))
  have NEq29_1:Hid ((g0+1)≠gq29):=yh (HNq29.out ((g0+1),(arrB sum),24) (by simp))
  have NEq29_2:Hid ((g0+1+1)≠gq29):=yh (HNq29.out ((g0+1+1),zer64,24) (by simp))
  have NEq29_3:Hid (gq2≠gq29):=yh (HNq29.out (gq2,cq2,5) (by simp))
  have NEq29_4:Hid (gq6≠gq29):=yh (HNq29.out (gq6,(arrB (secB seed)),22) (by simp))
  have NEq29_5:Hid (gq7≠gq29):=yh (HNq29.out (gq7,(arrB (saltB seed)),22) (by simp))
  have NEq29_6:Hid (gq10≠gq29):=yh (HNq29.out (gq10,(arrB (pubB seed)),22) (by simp))
  have NEq29_7:Hid (gq15≠gq29):=yh (HNq29.out (gq15,(bytT n14),22) (by simp))
  have NEq29_8:Hid (gq18≠gq29):=yh (HNq29.out (gq18,(arrB (mulB n14)),22) (by simp))
  have NEq29_9:Hid (gq23≠gq29):=yh (HNq29.out (gq23,(bytT n22),22) (by simp))
  have h1:nonN seed c sum=n14:=by unfold nonN;rw [← Hn14.out,← Hj13.out]
  have h2b:oneB seed c sum=mulB n14:=by unfold oneB oneP mulB;rw [h1]
  have h3:chaN (oneB seed c sum) (pubB seed) c sum=n22:=by rw [h2b];unfold chaN;rw [← Hn22.out,← Hj21.out]
  have h4:twoN seed c sum=n27:=by unfold twoN;rw [h3,h1];exact Hn27.out
  have HFI:Hid (sigR seed c sum=mulB n14++leB 32 n27):=yh (by unfold sigR;rw [if_neg HBC.out];unfold signB;rw [h2b,h4])
  clear h1 h2b h3 h4
  refine wp_region_noPanic ?_
  refine zah (S:=fun W=>Below Wq29.heap.size Wq29 W) 6 (by kernel_rfl) ⟨by kernel_rfl,by kernel_rfl,by kernel_rfl,by kernel_rfl⟩ (by exact (Below.refl _ _).drew) (fun hT inv hS=>?_)
  refine' yT 0 hT inv hS (fun inv=>?_)
  refine' yT 1 hT inv hS (fun inv=>?_)
  refine xT 2 inv (fun K hK=>?_)
  go_simp
  have hr9:((Wq29.alloc (Obj.cells #[.slice (some ⟨gq18,0,none⟩) 32 32,.slice (some ⟨gq29,0,none⟩) 32 32] 23)).drew).heap[Wq29.heap.size]?=some (Obj.cells #[.slice (some ⟨gq18,0,none⟩) 32 32,.slice (some ⟨gq29,0,none⟩) 32 32] 23 (0,0)):=heap_alloc_new _ _
  have kb9:Below Wq29.heap.size Wq29 ((Wq29.alloc (Obj.cells #[.slice (some ⟨gq18,0,none⟩) 32 32,.slice (some ⟨gq29,0,none⟩) 32 32] 23)).drew):=((Below.refl _ _).alloc (Nat.le_refl _) _).drew
  have b91:Bs ((Wq29.alloc (Obj.cells #[.slice (some ⟨gq18,0,none⟩) 32 32,.slice (some ⟨gq29,0,none⟩) 32 32] 23)).drew) (some ⟨gq18,0,none⟩) (mulB n14):=(fun hS=>(row_bs ((HRq29.out.below hS).tail.tail.head))) kb9
  have b92:Bs ((Wq29.alloc (Obj.cells #[.slice (some ⟨gq18,0,none⟩) 32 32,.slice (some ⟨gq29,0,none⟩) 32 32] 23)).drew) (some ⟨gq29,0,none⟩) (leB 32 n27):=(fun hS=>(byt_bs ((HRq29.out.below hS).head))) kb9
  clear hS
  refine hK.out _ _ (by exact kb9) (fun inv hS=>?_)
  clear hK K
  refine xT 3 inv (fun K hK=>?_)
  go_simp
  with_reducible refine (econcat2 (mulB_len _) (zav 32 n27) (Nat.le_refl _) (Nat.le_refl _) (by omega) (by omega) hr9 b91 b92).mono ?_
  rintro e v10 ⟨x10,rfl,ho10,hb10⟩
  obtain ⟨SG,hSG⟩:∃ y_,mulB n14++leB 32 n27=y_:=⟨_,rfl⟩
  have HSGL:Hid (SG.length=64):=yh (by rw [← hSG,List.length_append,mulB_len,zav])
  rw [hSG] at HFI ho10
  obtain ⟨g10,k10,c10,rfl,hge10,hrow10,hcur10⟩:=ho10.rowN HSGL.out (by omega)
  have b10:=ho10.bs
  have kb10:=zaa kb9 hb10
  clear hSG
  clear hS ho10 hb10 hr9 b91 b92 hrow10 hcur10
  refine hK.out _ _ (by exact kb10) (fun inv hS=>?_)
  clear hK K
  refine' yT 4 hT inv hS (fun inv=>?_) (hy:=by intro W hSW;have hat:=array_at g10 k10;go_simp;try with_reducible rfl)
  refine xT 5 inv (fun K hK=>?_)
  refine wp_runsW (.agg (arrB SG)) (zaT (cs:=SG.map bval) rfl rfl (bs_range b10) Tryz.underlying24 rfl (arr64_info' HSGL.out)) ?_
  refine hK.out _ _ (by exact kb10) (fun inv hS=>?_)
  clear hK K
  refine zaD (by kernel_rfl) ?_
  simp only [List.drop_succ_cons,List.drop_zero]
  clear hS
  (try simp only [Act.put])
  simp only [List.setIfInBounds_toArray,List.set_cons_succ,List.set_cons_zero]
  have HRq30:=yh (HRq29.out.below kb10)
  have HBq30:=yh (zaa HBq29.out kb10)
  clear kb10 kb9 b10
  have lsq31:=HRq30.out.tail.tail.tail.tail.tail.tail.tail.tail.head
  have HRq31:Hid (RowsW (v10.setRow (g0+1+1) (arrB SG)) [(gq29,(bytT n27),22),(gq23,(bytT n22),22),(gq18,(arrB (mulB n14)),22),(gq15,(bytT n14),22),(gq10,(arrB (pubB seed)),22),(gq7,(arrB (saltB seed)),22),(gq6,(arrB (secB seed)),22),(gq2,cq2,5),((g0+1+1),(arrB SG),24),((g0+1),(arrB sum),24),(g0,(arrB seed),22)]):=yh ⟨(by rw [setRow_other _ _ _ _ (Ne.symm NEq29_2.out)];exact HRq30.out.head),(by rw [setRow_other _ _ _ _ (Ne.symm NEq23_2.out)];exact HRq30.out.tail.head),(by rw [setRow_other _ _ _ _ (Ne.symm NEq18_2.out)];exact HRq30.out.tail.tail.head),(by rw [setRow_other _ _ _ _ (Ne.symm NEq15_2.out)];exact HRq30.out.tail.tail.tail.head),(by rw [setRow_other _ _ _ _ (Ne.symm NEq10_2.out)];exact HRq30.out.tail.tail.tail.tail.head),(by rw [setRow_other _ _ _ _ (Ne.symm NEq7_2.out)];exact HRq30.out.tail.tail.tail.tail.tail.head),(by rw [setRow_other _ _ _ _ (Ne.symm NEq6_2.out)];exact HRq30.out.tail.tail.tail.tail.tail.tail.head),(by rw [setRow_other _ _ _ _ (Ne.symm NEq2_2.out)];exact HRq30.out.tail.tail.tail.tail.tail.tail.tail.head),setRow_heap _ _ _ _ _ _ lsq31,(by rw [setRow_other _ _ _ _ (by omega)];exact HRq30.out.tail.tail.tail.tail.tail.tail.tail.tail.tail.head),(by rw [setRow_other _ _ _ _ (by omega)];exact HRq30.out.tail.tail.tail.tail.tail.tail.tail.tail.tail.tail.head),trivial⟩
  have HBq31:=yh (zac (g:=(g0+1+1)) (cs:=(arrB SG)) HBq30.out (by have:=HG0.out;omega))
  go_wp2_with (refine yj (arrB SG) lsq31 (zaP HSGL.out) (zer64_size HSGL.out) (zap _) ?_)
  obtain ⟨Wq31,hWq31⟩:∃ W,v10.setRow (g0+1+1) (arrB SG)=W:=⟨_,rfl⟩
  rw [hWq31] at HRq31 HBq31
  (try rw [hWq31])
  clear hWq31 lsq31
  refine NoPanic.normal ?_
  go_wp2_with fail
  (try simp only [Exit.inBlock,Exit.then])
  refine bodyPost_ret (zaE rfl _ _ (g0+1+1) _ (arrB SG) _ _ (.int .i64 0) rfl rfl HRq31.out.tail.tail.tail.tail.tail.tail.tail.tail.head Tryz.underlying24 rfl (zaP HSGL.out)) rfl ?_
  exact ⟨by rw [← HEC.out,if_neg HBC.out,HFI.out],HBq31.out⟩
theorem everify_any {R:Array Value→PtD→Prop} (D:PtV R) (M:MuC R) (pub:List UInt8) (hp:pub.length=32) (C:Option Addr) (c:List UInt8) (n k:Nat) (hn:c.length=n) (hcl:c.length≤1000) (sum:List UInt8) (hsu:sum.length=64) (sign:List UInt8) (hsg:sign.length=64) (w:World) (hc:Bs w C c) :
  Calls Tryz.prog 17 #[.agg (arrB pub),.slice C n k,.agg (arrB sum),.agg (arrB sign)] w (RetV w (.bool (verB pub c sum (sign.take 32) (sign.drop 32)))):=by
 have HPU:=yh hp
 have HSU:=yh hsu
 have HSG:=yh hsg
 clear hp hsu hsg
 obtain ⟨ZP,hZP,SZP⟩:=D.base.zero
 have hz32:=zaq
 have hz64:=zer64_zero
 have HC:=yh hc
 have HCN:=yh hn
 have HCL:=yh hcl
 clear hc hn hcl
 obtain ⟨pn,hpn⟩:∃ y_,(prefB c).length=y_:=⟨_,rfl⟩
 have HPN:=yh hpn
 have HPL:Hid ((prefB c).length≤1100):=yh (prefB_le HCL.out)
 clear hpn
 obtain ⟨R0,hR0⟩:∃ y_,sign.take 32=y_:=⟨_,rfl⟩
 have HR0L:Hid (R0.length=32):=yh (by rw [← hR0,List.length_take,HSG.out];rfl)
 have HRD:=yh hR0
 obtain ⟨S0,hS0⟩:∃ y_,sign.drop 32=y_:=⟨_,rfl⟩
 have HS0:Hid (S0.length=32):=yh (by rw [← hS0,List.length_drop,HSG.out])
 have HSD:=yh hS0
 clear hR0 hS0
 have HR0:=yh ((((RowsW.nil w).box (arrB pub) 22).box (arrB sum) 24).box (arrB sign) 24)
 have HB0:=yh (zae (zae (zae (Below.refl w.heap.size w) (arrB pub) 22) (arrB sum) 24) (arrB sign) 24)
 rw [World.size_alloc,World.size_alloc] at HR0
 go_enter Tryz.func17,Tryz.ntmps17
 go_upto_region 1 with fail
 obtain ⟨W0,hW0⟩:∃ W,(((w.alloc (.cells (arrB pub) 22)).alloc (.cells (arrB sum) 24)).alloc (.cells (arrB sign) 24))=W:=⟨_,rfl⟩
 obtain ⟨g0,hg0⟩:∃ g,w.heap.size=g:=⟨_,rfl⟩
 rw [hW0] at HR0 HB0
 rw [hg0] at HR0
 rw [hW0]
 (try rw [hg0])
 have HG0:=yh hg0
 clear hW0 hg0
 by_cases hb:255<n
 ·have d1:decide ((255:Int)<(n:Int))=true:=decide_eq_true (by omega)
  have hv:=ver_long (pub:=pub) (c:=c) (sum:=sum) (r:=R0) (s:=S0) (by rw [HCN.out];exact hb)
  clear hb
  go_wp2_with fail
  go_ret
  exact ⟨by rw [HRD.out,HSD.out,hv] <;> rfl,HB0.out⟩
 ·have d1:decide ((255:Int)<(n:Int))=false:=decide_eq_false (by omega)
  have HBC:Hid (¬ 255<c.length):=yh (by rw [HCN.out];exact hb)
  clear hb
  go_upto_region 3 with fail
  have l1:=HR0.out.tail.tail.head
  go_wp2_with (refine yi l1 Tryz.underlying22 (zaf HPU.out) ?_)
  obtain ⟨p2,Hp2⟩:=yx (α:=PtD) (decP pub)
  obtain ⟨b3,Hb3⟩:=yx (α:=Bool) (decF pub)
  have kq4:=fun W:World=>(D.decode pub HPU.out) W
  rw [Hp2.out,Hb3.out] at kq4
  have Kq4:=yh kq4
  clear kq4
  with_reducible refine (Kq4.out _).mono ?_
  rintro e vq4 ⟨cq4,rfl,rq4,hbq4⟩
  have Rq4:=yh rq4
  clear rq4
  have HRq4:=yh (HR0.out.below hbq4)
  have HBq4:=yh (zaa HB0.out hbq4)
  clear hbq4
  have h0q5:(vq4.alloc (.cells ZP 65)).heap[vq4.heap.size]?=some (.cells ZP 65 (0,0)):=heap_alloc_new _ _
  have HRq5:=yh (HRq4.out.new ZP cq4 65)
  have HBq5:=yh (zau HBq4.out ZP cq4 65)
  have HNq5:=yh HRq4.out.ne
  have HGq5:=yh HBq4.out.size
  go_upto_region 4 with (refine yj cq4 h0q5 (D.base.info Rq4.out) (SZP Rq4.out) (D.base.one Rq4.out) ?_)
  obtain ⟨Wq5,hWq5⟩:∃ W,(vq4.alloc (.cells ZP 65)).setRow vq4.heap.size cq4=W:=⟨_,rfl⟩
  obtain ⟨gq5,hgq5⟩:∃ g,vq4.heap.size=g:=⟨_,rfl⟩
  rw [hWq5,hgq5] at HRq5
  rw [hWq5] at HBq5
  rw [hgq5] at HNq5 HGq5
  rw [hWq5,hgq5]
  clear hWq5 hgq5 h0q5
  have NEq5_0:Hid (g0≠gq5):=yh (HNq5.out (g0,(arrB pub),22) (by simp))
  have NEq5_1:Hid ((g0+1)≠gq5):=yh (HNq5.out ((g0+1),(arrB sum),24) (by simp))
  have NEq5_2:Hid ((g0+1+1)≠gq5):=yh (HNq5.out ((g0+1+1),(arrB sign),24) (by simp))
  cases b3
  ·skip
   have hv:verB pub c sum R0 S0=false:=by unfold verB;rw [Hb3.out,Bool.false_and,Bool.and_false]
   go_wp2_with fail
   go_ret
   exact ⟨by rw [HRD.out,HSD.out,hv] <;> rfl,HBq5.out⟩
  ·skip
   go_upto_region 6 with fail
   refine wp_region_noPanic ?_
   refine wp_region_heldB2 6 11 22 zag 7 12 22 zag (by kernel_rfl) (by kernel_rfl) ⟨⟨by kernel_rfl,by kernel_rfl,hz32,fun _ _ _ h=>h⟩,⟨by kernel_rfl,by kernel_rfl,hz32,fun _ _ _ h=>h⟩,by kernel_rfl⟩ (fun hA hS=>?_)
   refine' yC 0 hA hS ?_ (hy:=by intro W hSW;have hsl:=sl64_lo (g0+1+1);go_simp;try with_reducible rfl)
   refine' yC 1 hA hS ?_ (hy:=by intro W hSW;have hat:=arr32_at (g0+1+1) 0 64;go_simp;try with_reducible rfl)
   refine' yC 2 hA hS ?_ (hy:=by intro W hSW;exact zaT rfl rfl (by have h:=row_lo (k:=32) (HRq5.out.below hSW).tail.head;rwa [HRD.out] at h) Tryz.underlying22 rfl (arr32_info' HR0L.out))
   refine' yC 3 hA hS ?_ (hy:=by intro W hSW;have hsl:=sl64_hi (g0+1+1);go_simp;try with_reducible rfl)
   refine' yC 4 hA hS ?_ (hy:=by intro W hSW;have hat:=arr32_at (g0+1+1) 32 32;go_simp;try with_reducible rfl)
   refine' yC 5 hA hS ?_ (hy:=by intro W hSW;exact zaT rfl rfl (by have h:=row_hi (k:=32) (HRq5.out.below hSW).tail.head;rwa [HSD.out] at h) Tryz.underlying22 rfl (arr32_info' HS0.out))
   refine' both_atB2 8 hA (by kernel_rfl) (by kernel_rfl) (by kernel_rfl) (by kernel_rfl) (by kernel_rfl) hS ?_ ?_
   rotate_left 1
   ·intro g g';simp only [List.set_cons_succ,List.set_cons_zero];rfl
   intro gq7 gq8 Xq6 hgq7 hgq8 hneq6 hbq6 haq6 hcq6
   clear hA hS
   have hdq6:(Xq6.setRow gq7 (arrB R0)).heap[gq8]?=some (.cells zag 22 (0,0)):=by rw [setRow_other _ _ _ _ (Ne.symm hneq6)];exact hcq6
   have heq6:((Xq6.setRow gq7 (arrB R0)).setRow gq8 (arrB S0)).heap[gq7]?=some (.cells (arrB R0) 22 (0,0)):=by rw [setRow_other _ _ _ _ hneq6];exact setRow_heap _ _ _ _ _ _ haq6
   refine xk 8  (fun K hK=>?_)
   refine wp_store_row 22 (.tmp 11) (.tmp 26) rfl gq7 (arrB R0) rfl rfl 22 zag haq6 (zaf HR0L.out) (zar HR0L.out) (zap _) ?_
   refine hK.out _ _ (by exact (zac hbq6 hgq7)) (fun hS=>?_)
   clear hK K
   refine xk 9  (fun K hK=>?_)
   refine wp_store_row 22 (.tmp 12) (.tmp 29) rfl gq8 (arrB S0) rfl rfl 22 zag hdq6 (zaf HS0.out) (zar HS0.out) (zap _) ?_
   refine hK.out _ _ (by exact (zac (zac hbq6 hgq7) hgq8)) (fun hS=>?_)
   clear hK K
   clear hS
   refine wpAnyH_done (by kernel_rfl) ?_ _
   refine NoPanic.normal ?_
   (try simp only [Act.put])
   have HRq6:Hid (RowsW ((Xq6.setRow gq7 (arrB R0)).setRow gq8 (arrB S0)) [(gq8,(arrB S0),22),(gq7,(arrB R0),22),(gq5,cq4,65),((g0+1+1),(arrB sign),24),((g0+1),(arrB sum),24),(g0,(arrB pub),22)]):=yh ⟨setRow_heap _ _ _ _ _ _ hdq6,heq6,((HRq5.out.below hbq6).setRow (fun r hr=>by have h:=HRq5.out.lt r hr;have:=hgq7;omega) _).setRow (fun r hr=>by have h:=HRq5.out.lt r hr;have:=hgq8;omega) _⟩
   have HBq6:Hid (Below w.heap.size w ((Xq6.setRow gq7 (arrB R0)).setRow gq8 (arrB S0))):=yh (zaa HBq5.out (zac (zac hbq6 hgq7) hgq8))
   have NEq7_0:Hid (g0≠gq7):=yh (by have h:=HRq5.out.lt (g0,(arrB pub),22) (by simp);have:=hgq7;simp only at h;omega)
   have NEq8_0:Hid (g0≠gq8):=yh (by have h:=HRq5.out.lt (g0,(arrB pub),22) (by simp);have:=hgq8;simp only at h;omega)
   have NEq7_1:Hid ((g0+1)≠gq7):=yh (by have h:=HRq5.out.lt ((g0+1),(arrB sum),24) (by simp);have:=hgq7;simp only at h;omega)
   have NEq8_1:Hid ((g0+1)≠gq8):=yh (by have h:=HRq5.out.lt ((g0+1),(arrB sum),24) (by simp);have:=hgq8;simp only at h;omega)
   have NEq7_2:Hid ((g0+1+1)≠gq7):=yh (by have h:=HRq5.out.lt ((g0+1+1),(arrB sign),24) (by simp);have:=hgq7;simp only at h;omega)
   have NEq8_2:Hid ((g0+1+1)≠gq8):=yh (by have h:=HRq5.out.lt ((g0+1+1),(arrB sign),24) (by simp);have:=hgq8;simp only at h;omega)
   have NEq7_3:Hid (gq5≠gq7):=yh (by have h:=HRq5.out.lt (gq5,cq4,65) (by simp);have:=hgq7;simp only at h;omega)
   have NEq8_3:Hid (gq5≠gq8):=yh (by have h:=HRq5.out.lt (gq5,cq4,65) (by simp);have:=hgq8;simp only at h;omega)
   have NEq8_4:Hid (gq7≠gq8):=yh hneq6
   have HGq7:=yh (Nat.le_trans HBq5.out.size hgq7)
   have HGq8:=yh (Nat.le_trans HBq5.out.size hgq8)
   obtain ⟨Wq6,hWq6⟩:∃ W,((Xq6.setRow gq7 (arrB R0)).setRow gq8 (arrB S0))=W:=⟨_,rfl⟩
   rw [hWq6] at HRq6 HBq6
   (try rw [hWq6])
   clear hWq6 haq6 hcq6 hdq6 heq6 hgq7 hgq8 hneq6 hbq6
   go_upto_region 7 with fail
   cases hl:decide (leN S0<LL)
   ·have HLT:=yh hl
    clear hl
    have l9:=HRq6.out.head
    go_wp2_with (refine yi l9 Tryz.underlying22 (zaf HS0.out) ?_)
    have Ht10:Hid (decide (leN S0<LL)=false):=yh HLT.out
    have kq11:=fun W:World=>(fun W=>scCan_any S0 HS0.out W) W
    rw [Ht10.out] at kq11
    have Kq11:=yh kq11
    clear kq11
    with_reducible refine (Kq11.out _).mono ?_
    rintro e vq11 ⟨rfl,hbq11⟩
    have HRq11:=yh (HRq6.out.below hbq11)
    have HBq11:=yh (zaa HBq6.out hbq11)
    clear hbq11
    have hv:verB pub c sum R0 S0=false:=by unfold verB;rw [HLT.out,Bool.false_and,Bool.and_false,Bool.and_false]
    go_wp2_with fail
    go_ret
    exact ⟨by rw [HRD.out,HSD.out,hv] <;> rfl,HBq11.out⟩
   ·have HLT:=yh hl
    clear hl
    have l12:=HRq6.out.head
    go_wp2_with (refine yi l12 Tryz.underlying22 (zaf HS0.out) ?_)
    have Ht13:Hid (decide (leN S0<LL)=true):=yh HLT.out
    have kq14:=fun W:World=>(fun W=>scCan_any S0 HS0.out W) W
    rw [Ht13.out] at kq14
    have Kq14:=yh kq14
    clear kq14
    with_reducible refine (Kq14.out _).mono ?_
    rintro e vq14 ⟨rfl,hbq14⟩
    have HRq14:=yh (HRq6.out.below hbq14)
    have HBq14:=yh (zaa HBq6.out hbq14)
    clear hbq14
    go_upto_region 9 with fail
    refine wp_region_noPanic ?_
    refine zaY 7 13 22 zag (by kernel_rfl) (by kernel_rfl) ⟨by kernel_rfl,by kernel_rfl,hz32,fun _ _ _ h=>h⟩ (fun hA ok hS=>?_)
    refine' zaN 0 hA ok rfl (by kernel_rfl) (by kernel_rfl) (by kernel_rfl) (by kernel_rfl) (by kernel_rfl) (by rfl) (by rfl) hS ?_ ?_ ?_
    rotate_left 2
    ·intro W hSW;go_simp;try with_reducible rfl
    ·simp only [List.set_cons_succ,List.set_cons_zero];rfl
    refine' zaN 2 hA ok rfl (by kernel_rfl) (by kernel_rfl) (by kernel_rfl) (by kernel_rfl) (by kernel_rfl) (by rfl) (by rfl) hS ?_ ?_ ?_
    rotate_left 2
    ·intro W hSW;go_simp;try with_reducible rfl
    ·simp only [List.set_cons_succ,List.set_cons_zero];rfl
    refine' zaN 3 hA ok rfl (by kernel_rfl) (by kernel_rfl) (by kernel_rfl) (by kernel_rfl) (by kernel_rfl) (by rfl) (by rfl) hS ?_ ?_ ?_
    rotate_left 2
    ·intro W hSW;go_simp;try with_reducible rfl
    ·simp only [List.set_cons_succ,List.set_cons_zero];rfl
    refine' zaN 4 hA ok rfl (by kernel_rfl) (by kernel_rfl) (by kernel_rfl) (by kernel_rfl) (by kernel_rfl) (by rfl) (by rfl) hS ?_ ?_ ?_
    rotate_left 2
    ·intro W hSW;go_simp;try with_reducible rfl
    ·simp only [List.set_cons_succ,List.set_cons_zero];rfl
    refine zaZ 1 hA ok rfl (by kernel_rfl) (by kernel_rfl) (by kernel_rfl) (by kernel_rfl) (by rfl) (by rfl) hS (fun oq15 Xq15 hS K hK=>?_)
    go_simp
    with_reducible refine ((fun (_:World)=>eprefix_any C c n k HCN.out HCL.out _ (HC.out.below (zaa HBq14.out (ok.low _ (HS.s hS))))) Xq15).mono ?_
    rintro e vq15 ⟨xq15,rfl,hoq15,hbq15⟩
    obtain ⟨Aq15,cq15,rfl,-,hcpq15⟩:=hoq15.formL HPN.out
    have CPq15:=yh hcpq15
    refine hK.out _ _ hbq15 (fun hS=>?_)
    clear hK K hcpq15
    refine XS.mono (S2:=fun W=>(Below vq14.heap.size vq14 W)∧Ob 5 W Xq15.heap.size (.slice Aq15 pn cq15) (prefB c)) (fun _ h=>h.1) ?_
    replace ok:=ok.ob (E:=5) (base:=Xq15.heap.size) (v:=.slice Aq15 pn cq15) (l:=(prefB c)) (by decide)
    replace hS:HS _ _ _ (fun W=>(Below vq14.heap.size vq14 W)∧Ob 5 W Xq15.heap.size (.slice Aq15 pn cq15) (prefB c)) _ _:=⟨⟨HS.s hS,hoq15⟩,hS.2⟩
    refine zaZ 5 hA ok rfl (by kernel_rfl) (by kernel_rfl) (by kernel_rfl) (by kernel_rfl) (by rfl) (by rfl) hS (fun oq16 Xq16 hS K hK=>?_)
    go_simp
    have hrq16:(Xq16.alloc (Obj.cells #[.slice Aq15 pn cq15,.slice (some ⟨gq7,0,none⟩) 32 32,.slice (some ⟨g0,0,none⟩) 32 32,.slice (some ⟨(g0+1),0,none⟩) 64 64] 23)).heap[Xq16.heap.size]?=some (Obj.cells #[.slice Aq15 pn cq15,.slice (some ⟨gq7,0,none⟩) 32 32,.slice (some ⟨g0,0,none⟩) 32 32,.slice (some ⟨(g0+1),0,none⟩) 64 64] 23 (0,0)):=heap_alloc_new _ _
    refine hK.out _ _ (by exact (Below.refl _ _).alloc (Nat.le_refl _) _) (fun hS=>?_)
    clear hK K
    refine XS.mono (S2:=fun W=>((Below vq14.heap.size vq14 W)∧Ob 5 W Xq15.heap.size (.slice Aq15 pn cq15) (prefB c))∧∃ fr,W.heap[Xq16.heap.size]?=some (Obj.cells #[.slice Aq15 pn cq15,.slice (some ⟨gq7,0,none⟩) 32 32,.slice (some ⟨g0,0,none⟩) 32 32,.slice (some ⟨(g0+1),0,none⟩) 64 64] 23 fr)) (fun _ h=>h.1) ?_
    replace ok:=ok.rowe (g:=Xq16.heap.size) (cs:=#[.slice Aq15 pn cq15,.slice (some ⟨gq7,0,none⟩) 32 32,.slice (some ⟨g0,0,none⟩) 32 32,.slice (some ⟨(g0+1),0,none⟩) 64 64]) (T':=23) (by decide)
    replace hS:HS _ _ _ (fun W=>((Below vq14.heap.size vq14 W)∧Ob 5 W Xq15.heap.size (.slice Aq15 pn cq15) (prefB c))∧∃ fr,W.heap[Xq16.heap.size]?=some (Obj.cells #[.slice Aq15 pn cq15,.slice (some ⟨gq7,0,none⟩) 32 32,.slice (some ⟨g0,0,none⟩) 32 32,.slice (some ⟨(g0+1),0,none⟩) 64 64] 23 fr)) _ _:=⟨⟨HS.s hS,(0,0),hrq16⟩,hS.2⟩
    clear hrq16
    refine zaZ 6 hA ok rfl (by kernel_rfl) (by kernel_rfl) (by kernel_rfl) (by kernel_rfl) (by rfl) (by rfl) hS (fun oq17 Xq17 hS K hK=>?_)
    obtain ⟨j18,hj18⟩:∃ y_:List UInt8,(prefB c)++R0++pub++sum=y_:=⟨_,rfl⟩
    have Hj18:=yh hj18
    have HBj18:Hid (j18.length≤2000):=yh (by rw [← hj18];simp only [List.length_append,HR0L.out,HPU.out,HSU.out];have:=HPL.out;omega)
    clear hj18
    obtain ⟨n19,hn19⟩:∃ x_:Nat,leN (zaM j18) % LL=x_:=⟨_,rfl⟩
    have Hn19:=yh hn19
    have HMn19:Hid (n19<256^32):=yh (by rw [← hn19];exact modLL_E _)
    clear hn19
    obtain ⟨frq17,hfrq17⟩:=((HS.s hS).2)
    have kq17:=enum4 HPN.out HR0L.out HPU.out HSU.out CPq15.out (Nat.le_refl _) (Nat.le_refl _) (Nat.le_refl _) Hj18.out HBj18.out hfrq17 (Ob.bs ((HS.s hS).1.2)) (row_bs ((HRq14.out.below (ok.low _ (HS.s hS))).tail.head)) (row_bs ((HRq14.out.below (ok.low _ (HS.s hS))).tail.tail.tail.tail.tail.head)) (row_bs ((HRq14.out.below (ok.low _ (HS.s hS))).tail.tail.tail.tail.head))
    rw [Hn19.out] at kq17
    go_simp
    with_reducible refine kq17.mono ?_
    rintro e vq17 ⟨rfl,hbq17⟩
    refine hK.out _ _ hbq17 (fun hS=>?_)
    clear hK K hbq17
    refine' store_atS 8 hA ok rfl (by kernel_rfl) (by kernel_rfl) (by kernel_rfl) hS (by kernel_rfl) rfl (by intro h;cases h) (zaI _) (zero32_byt _) (bytT_one _) ?_ ?_
    rotate_left 1
    ·intro g;simp only [List.set_cons_succ,List.set_cons_zero];rfl
    intro gq20 Wq20 hgq20 hsq20 hrowq20
    have hbq20:=ok.low _ hsq20
    clear hA hS
    refine wpAnyH_done (by kernel_rfl) ?_ _
    refine NoPanic.normal ?_
    (try simp only [Act.put])
    have HRq20:Hid (RowsW Wq20 [(gq20,(bytT n19),22),(gq8,(arrB S0),22),(gq7,(arrB R0),22),(gq5,cq4,65),((g0+1+1),(arrB sign),24),((g0+1),(arrB sum),24),(g0,(arrB pub),22)]):=yh ⟨hrowq20,HRq14.out.below hbq20⟩
    have HBq20:=yh (zaa HBq14.out hbq20)
    have NEq20_0:Hid (g0≠gq20):=yh (by have h:=HRq14.out.lt (g0,(arrB pub),22) (by simp);have:=hgq20;simp only at h;omega)
    have NEq20_1:Hid ((g0+1)≠gq20):=yh (by have h:=HRq14.out.lt ((g0+1),(arrB sum),24) (by simp);have:=hgq20;simp only at h;omega)
    have NEq20_2:Hid ((g0+1+1)≠gq20):=yh (by have h:=HRq14.out.lt ((g0+1+1),(arrB sign),24) (by simp);have:=hgq20;simp only at h;omega)
    have NEq20_3:Hid (gq5≠gq20):=yh (by have h:=HRq14.out.lt (gq5,cq4,65) (by simp);have:=hgq20;simp only at h;omega)
    have NEq20_4:Hid (gq7≠gq20):=yh (by have h:=HRq14.out.lt (gq7,(arrB R0),22) (by simp);have:=hgq20;simp only at h;omega)
    have NEq20_5:Hid (gq8≠gq20):=yh (by have h:=HRq14.out.lt (gq8,(arrB S0),22) (by simp);have:=hgq20;simp only at h;omega)
    have HGq20:=yh (Nat.le_trans HBq14.out.size hgq20)
    clear hrowq20 hbq20 hgq20 hsq20 ok
    go_upto_region 10 with fail
    refine wp_region_noPanic ?_
    refine wp_region_held_drew (S:=fun W=>Below Wq20.heap.size Wq20 W) (by kernel_rfl) (by exact (Below.refl _ _).drew) (fun hS=>?_)
    refine' yk 0  hS ?_ (hy:=fun W hSW=>zad rfl rfl (HRq20.out.below hSW).head Tryz.underlying22 rfl (zaI _))
    refine' yk 1  hS ?_ (hy:=fun W hSW=>zad rfl rfl (HRq20.out.below hSW).tail.tail.tail.head Tryz.underlying65 rfl (D.base.info Rq4.out))
    refine' yk 3  hS ?_ (hy:=fun W hSW=>zad rfl rfl (HRq20.out.below hSW).tail.head Tryz.underlying22 rfl (zaf HS0.out))
    refine' yk 6  hS ?_ (hy:=fun W hSW=>zad rfl rfl (HRq20.out.below hSW).tail.tail.head Tryz.underlying22 rfl (zaf HR0L.out))
    refine xk 2  (fun K hK=>?_)
    go_simp
    obtain ⟨p21,Hp21⟩:=yx (α:=PtD) (Ed.Pt.neg p2)
    with_reducible refine ((D.neg Rq4.out) _).mono ?_
    rintro e vq22 ⟨cq22,rfl,rq22,hbq22⟩
    rw [Hp21.out] at rq22
    have Rq22:=yh rq22
    clear rq22
    have kbq22:=zaa hS hbq22
    clear hS hbq22
    refine hK.out _ _ (by exact kbq22) (fun hS=>?_)
    clear hK K
    refine xk 4  (fun K hK=>?_)
    go_simp
    obtain ⟨p23,Hp23⟩:=yx (α:=PtD) (pmul n19 p21)
    obtain ⟨p24,Hp24⟩:=yx (α:=PtD) (pmul (leN S0) F25519.base)
    obtain ⟨p25,Hp25⟩:=yx (α:=PtD) (padd p23 p24)
    have o44:∀ W:World,Calls Tryz.prog 37 #[.agg (bytT n19),.agg cq22,.agg (arrB S0)] W (RetPt R W (padd (pmul n19 p21) (pmul (leN S0) F25519.base))):=fun W=>by have h:=M.two (leB 32 n19) S0 (zav 32 n19) HS0.out Rq22.out W;rw [leN_leB 32 n19 HMn19.out] at h;exact h
    with_reducible refine ((fun W=>o44 W) _).mono ?_
    rintro e vq26 ⟨cq26,rfl,rq26,hbq26⟩
    rw [Hp23.out,Hp24.out,Hp25.out] at rq26
    have Rq26:=yh rq26
    clear rq26
    have kbq26:=zaa kbq22 hbq26
    clear hS hbq26
    refine hK.out _ _ (by exact kbq26) (fun hS=>?_)
    clear hK K
    refine xk 5  (fun K hK=>?_)
    go_simp
    with_reducible refine ((D.encode Rq26.out) _).mono ?_
    rintro e vq27 ⟨rfl,hbq27⟩
    have kbq27:=zaa kbq26 hbq27
    clear hS hbq27
    refine hK.out _ _ (by exact kbq27) (fun hS=>?_)
    clear hK K
    refine' yk 7  hS ?_ (hy:=fun W hSW=>run_eql2 rfl rfl rfl guardB (eqByt (zav 32 (F25519.encN p25)) HR0L.out W))
    refine' yk 8  hS ?_
    refine wpAnyH_done (by kernel_rfl) ?_ _
    refine NoPanic.normal ?_
    clear hS
    (try simp only [Act.put])
    have HRq28:=yh (HRq20.out.below kbq27)
    have HBq28:=yh (zaa HBq20.out kbq27)
    have hv:verB pub c sum R0 S0=decide (leB 32 (F25519.encN p25)=R0):=by
     have hk:chaN R0 pub c sum=n19:=by unfold chaN;rw [← Hn19.out,← Hj18.out]
     have hp:verP pub c sum R0 S0=p25:=by unfold verP;rw [hk,← pmul_neg,padd_commE,Hp2.out,Hp21.out,Hp23.out,Hp24.out];exact Hp25.out
     unfold verB
     rw [decide_eq_false HBC.out,Hb3.out,HLT.out,hp]
     rfl
    go_wp2_with fail
    go_ret
    exact ⟨by rw [HRD.out,HSD.out,hv] <;> rfl,HBq28.out⟩
theorem edC:EdC where
 prefix_:=fun C c n k hn hl W hc=>eprefix_any C c n k hn hl W hc
 pub:=fun l hl W=>epublic_any ptV muC l hl W
 sign:=fun seed hs C c n k hn hl sum hsu W hc=>esign_any ptV muC seed hs C c n k hn hl sum hsu W hc
 verify:=fun pub hp C c n k hn hl sum hsu sign hsg W hc=>everify_any ptV muC pub hp C c n k hn hl sum hsu sign hsg W hc
theorem of14 (W:World) (g:Nat) (A:Option Addr) (c:Nat) (hg:W.heap[g]?=some (.cells #[.slice A 3 c] 23 (0,0))) (hb:Bs W A [97,98,99]) (hc:3≤c) :
  Calls Tryz.prog 21 #[.slice (some ⟨g,0,none⟩) 1 1] W (RetV W (.agg (arrB dig1))):=by
 have h:=eof1 (a:=[97,98,99]) (na:=3) rfl hc (by omega) hg hb
 rw [show zaM [97,98,99]=dig1 from dig1_is] at h
 exact h
end Go.Proofs.YtkgodlcnoenmbaaGreat
