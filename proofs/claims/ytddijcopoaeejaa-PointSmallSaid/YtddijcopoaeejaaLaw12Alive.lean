/- The walk of alive. Written by wip/tools. -/
import Derived.Test.YtddijcopoaeejaaLaw12Spec
namespace Go.Proofs.Ytddijcopoaeejaa
open Go.RowKit
set_option linter.unusedVariables false
set_option maxRecDepth 100000

set_option maxHeartbeats 6400000 in
theorem alive12_any {R : Array Value → PtD → Prop} (D : PtC R)  (w : World) : Calls Try.prog 9 #[] w fun e w' => e = .returned (.bool true) ∧ Below w.heap.size w w' := by
  obtain ⟨Z, hZ, sZ⟩ := D.base.zero
  have hz32 := zero32_zero
  have hzP := refP_zero
  have HR0 := Lib.hid (RowsW.nil w)
  have HB0 := Lib.hid (Below.refl w.heap.size w)
  go_enter Try.func9, Try.ntmps9
  go_wp2_with fail
  with_reducible refine ((fun W => D.basep W) _).mono ?_
  rintro e vq1 ⟨cq1, rfl, rq1, hbq1⟩
  have Rq1 := Lib.hid rq1
  clear rq1
  have HRq1 := Lib.hid (HR0.out.below hbq1)
  have HBq1 := Lib.hid (below_next HB0.out hbq1)
  clear hbq1
  go_wp2_with fail
  with_reducible refine ((D.encode Rq1.out) _).mono ?_
  rintro e vq2 ⟨rfl, hbq2⟩
  have HRq2 := Lib.hid (HRq1.out.below hbq2)
  have HBq2 := Lib.hid (below_next HBq1.out hbq2)
  clear hbq2
  have h0q3 : (vq2.alloc (.cells zero32 22)).heap[vq2.heap.size]? = some (.cells zero32 22 (0, 0)) := heap_alloc_new _ _
  have HRq3 := Lib.hid (HRq2.out.new zero32 (bytT (F25519.encN F25519.base)) 22)
  have HBq3 := Lib.hid (below_new HBq2.out zero32 (bytT (F25519.encN F25519.base)) 22)
  have HNq3 := Lib.hid HRq2.out.ne
  have HGq3 := Lib.hid HBq2.out.size
  go_upto_region 2 with (refine wpList_store_row rfl 22 (.tmp 1) (.tmp 3) rfl vq2.heap.size (bytT (F25519.encN F25519.base)) rfl rfl 22 zero32 h0q3 (bytT_info _) (zero32_byt _) (bytT_one _) ?_)
  obtain ⟨Wq3, hWq3⟩ : ∃ W, (vq2.alloc (.cells zero32 22)).setRow vq2.heap.size (bytT (F25519.encN F25519.base)) = W := ⟨_, rfl⟩
  obtain ⟨gq3, hgq3⟩ : ∃ g, vq2.heap.size = g := ⟨_, rfl⟩
  rw [hWq3, hgq3] at HRq3
  rw [hWq3] at HBq3
  rw [hgq3] at HNq3 HGq3
  rw [hWq3, hgq3]
  clear hWq3 hgq3 h0q3
  have cx0 : Wq3.cell? ⟨gq3, 0, none⟩ = some (.int .u8 88) := by rw [cell_of_row _ _ _ _ _ _ HRq3.out.head, base_b]; rfl
  have cx1 : Wq3.cell? ⟨gq3, 1, none⟩ = some (.int .u8 102) := by rw [cell_of_row _ _ _ _ _ _ HRq3.out.head, base_b]; rfl
  have cx31 : Wq3.cell? ⟨gq3, 31, none⟩ = some (.int .u8 102) := by rw [cell_of_row _ _ _ _ _ _ HRq3.out.head, base_b]; rfl
  go_wp2_with fail
  with_reducible refine ((fun W => D.zero W) _).mono ?_
  rintro e vq4 ⟨cq4, rfl, rq4, hbq4⟩
  have Rq4 := Lib.hid rq4
  clear rq4
  have HRq4 := Lib.hid (HRq3.out.below hbq4)
  have HBq4 := Lib.hid (below_next HBq3.out hbq4)
  clear hbq4
  go_wp2_with fail
  with_reducible refine ((fun W => D.basep W) _).mono ?_
  rintro e vq5 ⟨cq5, rfl, rq5, hbq5⟩
  have Rq5 := Lib.hid rq5
  clear rq5
  have HRq5 := Lib.hid (HRq4.out.below hbq5)
  have HBq5 := Lib.hid (below_next HBq4.out hbq5)
  clear hbq5
  go_wp2_with fail
  obtain ⟨p6, hp6⟩ : ∃ y_ : PtD, padd pzero F25519.base = y_ := ⟨_, rfl⟩
  have Hp6 := Lib.hid hp6
  clear hp6
  with_reducible refine ((D.add Rq4.out Rq5.out) _).mono ?_
  rintro e vq7 ⟨cq7, rfl, rq7, hbq7⟩
  rw [Hp6.out] at rq7
  have Rq7 := Lib.hid rq7
  clear rq7
  have HRq7 := Lib.hid (HRq5.out.below hbq7)
  have HBq7 := Lib.hid (below_next HBq5.out hbq7)
  clear hbq7
  go_wp2_with fail
  with_reducible refine ((fun W => D.basep W) _).mono ?_
  rintro e vq8 ⟨cq8, rfl, rq8, hbq8⟩
  have Rq8 := Lib.hid rq8
  clear rq8
  have HRq8 := Lib.hid (HRq7.out.below hbq8)
  have HBq8 := Lib.hid (below_next HBq7.out hbq8)
  clear hbq8
  go_wp2_with fail
  have kq9 := fun W : World => (D.equal Rq7.out Rq8.out) W
  rw [show ptEq p6 F25519.base = true from (ptEq_iff.2 (by rw [← Hp6.out]; exact pz_add _))] at kq9
  have Kq9 := Lib.hid kq9
  clear kq9
  with_reducible refine (Kq9.out _).mono ?_
  rintro e vq9 ⟨rfl, hbq9⟩
  have HRq9 := Lib.hid (HRq8.out.below hbq9)
  have HBq9 := Lib.hid (below_next HBq8.out hbq9)
  clear hbq9
  go_wp2_with fail
  go_ret
  exact ⟨rfl, HBq9.out⟩
end Go.Proofs.Ytddijcopoaeejaa

