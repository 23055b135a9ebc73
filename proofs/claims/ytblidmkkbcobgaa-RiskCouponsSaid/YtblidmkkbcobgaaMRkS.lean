/- risk's example, and the source's paths of rates. -/
import Derived.Test.YtblidmkkbcobgaaMRkJ
import Derived.Test.YtblidmkkbcobgaaMG13
import Derived.Test.YtblidmkkbcobgaaMRyI
import Derived.Test.YtblidmkkbcobgaaMRyJ
import Derived.Test.YtblidmkkbcobgaaMRzR
set_option linter.unusedSimpArgs false
set_option linter.unusedVariables false
set_option linter.unusedSimpArgs false
set_option linter.unusedVariables false
namespace Go.Proofs.Ytblidmkkbcobgaa
open Go.RowKit Go.Lib Go.Proofs

/-- A row of structs in a new block, as a list. -/
theorem list_new {α : Type} {f : α → List Value} {m : Nat} (hf : Fields f m) (w : World) (l : List α) (T : TypeId) : ListAt f m (w.alloc (.cells (cellsL f l).toArray T)) (.slice (some ⟨w.heap.size, 0, none⟩) l.length l.length) l := by
  refine ⟨cellsL_len hf l, _, _, rfl, Nat.le_refl _, Or.inr ⟨w.heap.size, 0, rfl, by simp, fun j hj => ?_⟩⟩
  rw [Nat.zero_add, obj_cell (heap_alloc_new w (.cells (cellsL f l).toArray T)) j]
  simp

/-! ### The register of the example -/
def rkS : Sec := ⟨1, 1, 0, 390, 0, 0, false⟩
theorem rkS_ok : SecOk rkS 1 13 := ⟨by decide, by decide, by decide, by decide, by decide, by decide, by decide, by decide, by decide, by decide, by decide, by decide, by decide⟩
def rkR1 : Reg := ⟨[rkS], [], []⟩
def rkR2 : Reg := ⟨[rkS], [⟨1, 1, 100000⟩], [⟨1, 0, 1, 1, 0, 1, 100000⟩]⟩
theorem secs_rk : SecsOk [rkS] := ⟨fun s hs => by rw [List.mem_singleton] at hs; rw [hs]; exact ⟨1, 13, rkS_ok⟩, List.pairwise_singleton _ _, by decide⟩
theorem ok_rk1 : RegOk rkR1 := ⟨secs_rk, by decide, rfl⟩
theorem ok_rk2 : RegOk rkR2 := ⟨secs_rk, by decide, by decide⟩
theorem rk_add : addE rkR1 ⟨0, 0, 1, 1, 0, 1, 100000⟩ = 0 := by unfold addE; rw [checkR_ok ok_rk1]; decide
theorem rk_r2 : addV rkR1 ⟨0, 0, 1, 1, 0, 1, 100000⟩ = rkR2 := by unfold addV; rw [if_pos rk_add]; rfl
theorem rk_proj : projL rkR2 1 [5000, 6000] 2 = [⟨1, 0, 100000, 100000⟩, ⟨2, 5000, 100000, 100000⟩] := by decide
theorem rk_rates : RatesOk [5000, 6000] := fun q hq => by simp at hq; omega

set_option maxRecDepth 100000 in
set_option maxHeartbeats 8000000 in
theorem sane39_any (w : World) : Calls Try.prog 16 #[] w fun e w' => e = .returned (.bool true) ∧ Below w.heap.size w w' := by
  have HB1 := Lib.hid (below_alloc w (.cells #[.slice none 0 0, .slice none 0 0, .slice none 0 0] 29))
  have HX1 := Lib.hid (heap_alloc_new w (.cells #[.slice none 0 0, .slice none 0 0, .slice none 0 0] 29))
  obtain ⟨b, hb⟩ : ∃ b, b = w.heap.size := ⟨_, rfl⟩
  obtain ⟨w1, hw1⟩ : ∃ W, W = w.alloc (.cells #[.slice none 0 0, .slice none 0 0, .slice none 0 0] 29) := ⟨_, rfl⟩
  rw [← hw1] at HB1 HX1
  rw [← hb] at HX1
  have HBW : Hid (b = w.heap.size) := Lib.hid hb
  have HAD := Lib.hid (ryAdd_ok Reg.none rkS (.slice none 0 0) (.slice none 0 0) (.slice none 0 0) w1 ok_none ⟨1, 13, rkS_ok⟩ (fun t ht => by simp [Reg.none] at ht) (by decide) (none_at w1))
  have HIS := Lib.hid (fun x y z W (h : RegAt W x y z rkR1) => ryIssue_ok rkR1 x y z 0 1 1 100000 W ok_rk1 h)
  rw [rk_add, rk_r2] at HIS
  have HPJ := Lib.hid (fun x y z v W (h : RegAt W x y z rkR2) (hv : ListAt intC 1 W v [5000, 6000]) => riProject_ok rkR2 x y z v 1 [5000, 6000] W ok_rk2 h hv (by decide) (by decide) rk_rates)
  unfold ProjPost at HPJ
  rw [show ([5000, 6000] : List Int).length = 2 from rfl, rk_proj] at HPJ
  have HEQ := Lib.hid (fun u v W (hu : ListAt srvC 4 W u [⟨1, 0, 100000, 100000⟩, ⟨2, 5000, 100000, 100000⟩]) (hv : ListAt srvC 4 W v [⟨1, 0, 100000, 100000⟩, ⟨2, 5000, 100000, 100000⟩]) => eqSrv_any u v [⟨1, 0, 100000, 100000⟩, ⟨2, 5000, 100000, 100000⟩] [⟨1, 0, 100000, 100000⟩, ⟨2, 5000, 100000, 100000⟩] W hu hv (by decide) (by decide))
  simp only [rkS, Sec.cells] at HAD
  have hx := HX1.out
  have a0 := obj_cell hx 0
  have a1 := obj_cell hx 1
  have a2 := obj_cell hx 2
  have f0 := obj_free hx 0
  have f1 := obj_free hx 1
  have f2 := obj_free hx 2
  simp at a0 a1 a2
  clear hx
  go_enter Try.func16, Try.ntmps16
  go_upto_region 2 with fail
  rw [← hw1, ← hb]
  clear hw1 hb
  go_wp2_with fail
  refine HAD.out.mono ?_
  rintro e w2 ⟨x', y', z', rfl, hr, hb2⟩
  have hr' : RegAt w2 x' y' z' rkR1 := hr
  obtain ⟨xX, nX, cX, yX, mX, dX, zX, kX, eX, rfl, rfl, rfl⟩ := hr'.slices
  have hA := obj_below HX1.out hb2
  have HB2 := Lib.hid (HB1.out.trans (hb2.mono HB1.out.size))
  have s0 := obj_cell hA 0
  have s1 := obj_cell hA 1
  have s2 := obj_cell hA 2
  have sf0 := obj_free hA 0
  have sf1 := obj_free hA 1
  have sf2 := obj_free hA 2
  simp at s0 s1 s2
  obtain ⟨w3, hw3⟩ : ∃ W, W = put3 w2 b (.slice xX nX cX) (.slice yX mX dX) (.slice zX kX eX) := ⟨_, rfl⟩
  have HX3 : Hid (w3.heap[b]? = some (.cells #[.slice xX nX cX, .slice yX mX dX, .slice zX kX eX] 29 (0, 0))) := Lib.hid (by rw [hw3]; exact put3_at hA rfl _ _ _)
  have HR3 : Hid (RegAt w3 (.slice xX nX cX) (.slice yX mX dX) (.slice zX kX eX) rkR1) := Lib.hid (by rw [hw3]; exact hr'.keepL (lone_reg hA) (put3_grown _ _ _ _ _))
  have HB3 : Hid (Below w.heap.size w w3) := Lib.hid (by rw [hw3]; exact put3_below HB2.out (by have := HBW.out; omega) _ _ _)
  unfold put3 at hw3
  clear hA hr hr' hb2 HAD a0 a1 a2 f0 f1 f2
  go_upto_region 3 with fail
  rw [← hw3]
  clear hw3 s0 s1 s2 sf0 sf1 sf2
  have hx := HX3.out
  have a0 := obj_cell hx 0
  have a1 := obj_cell hx 1
  have a2 := obj_cell hx 2
  simp at a0 a1 a2
  clear hx
  go_wp2_with fail
  refine (HIS.out _ _ _ _ HR3.out).mono ?_
  rintro e w4 ⟨x', y', z', rfl, hr, hb4⟩
  obtain ⟨pX, oX, iX, pY, oY, iY, pZ, oZ, iZ, rfl, rfl, rfl⟩ := hr.slices
  have hA := obj_below HX3.out hb4
  have HB4 := Lib.hid (HB3.out.trans (hb4.mono HB3.out.size))
  have s0 := obj_cell hA 0
  have s1 := obj_cell hA 1
  have s2 := obj_cell hA 2
  have sf0 := obj_free hA 0
  have sf1 := obj_free hA 1
  have sf2 := obj_free hA 2
  simp at s0 s1 s2
  obtain ⟨w5, hw5⟩ : ∃ W, W = put3 w4 b (.slice pX oX iX) (.slice pY oY iY) (.slice pZ oZ iZ) := ⟨_, rfl⟩
  have HX5 : Hid (w5.heap[b]? = some (.cells #[.slice pX oX iX, .slice pY oY iY, .slice pZ oZ iZ] 29 (0, 0))) := Lib.hid (by rw [hw5]; exact put3_at hA rfl _ _ _)
  have HR5 : Hid (RegAt w5 (.slice pX oX iX) (.slice pY oY iY) (.slice pZ oZ iZ) rkR2) := Lib.hid (by rw [hw5]; exact hr.keepL (lone_reg hA) (put3_grown _ _ _ _ _))
  have HB5 : Hid (Below w.heap.size w w5) := Lib.hid (by rw [hw5]; exact put3_below HB4.out (by have := HBW.out; omega) _ _ _)
  unfold put3 at hw5
  clear hA hr hb4 HIS a0 a1 a2 HB3 HX3 HR3
  go_upto_region 4 with fail
  rw [← hw5]
  clear hw5 s0 s1 s2 sf0 sf1 sf2
  have hx := HX5.out
  have a0 := obj_cell hx 0
  have a1 := obj_cell hx 1
  have a2 := obj_cell hx 2
  simp at a0 a1 a2
  clear hx
  have HAL := Lib.hid (below_alloc w5 (.cells #[.int .i64 5000, .int .i64 6000] 3))
  have HRT : Hid (ListAt intC 1 (w5.alloc (.cells #[.int .i64 5000, .int .i64 6000] 3)) (.slice (some ⟨w5.heap.size, 0, none⟩) 2 2) [5000, 6000]) := Lib.hid (list_new intF w5 [5000, 6000] 3)
  go_wp2_with fail
  refine (HPJ.out _ _ _ _ _ (HR5.out.below HAL.out) HRT.out).mono ?_
  rintro e w6 ⟨u, rfl, ho, hb6⟩
  obtain ⟨ao, cap, rfl, hcap, -⟩ := owns_gen ho
  have HB6 := Lib.hid (HB5.out.trans ((HAL.out.trans (hb6.mono HAL.out.size)).mono HB5.out.size))
  have HU6 : Hid (ListAt srvC 4 w6 (.slice ao 2 cap) [⟨1, 0, 100000, 100000⟩, ⟨2, 5000, 100000, 100000⟩]) := Lib.hid (ListAt.owns ho)
  clear ho hb6 HPJ HRT HAL a0 a1 a2
  obtain ⟨w7, hw7⟩ : ∃ W, W = w6.alloc (.cells #[.int .i64 1, .int .i64 0, .int .i64 100000, .int .i64 100000, .int .i64 2, .int .i64 5000, .int .i64 100000, .int .i64 100000] 38) := ⟨_, rfl⟩
  have HB7 : Hid (Below w6.heap.size w6 w7) := Lib.hid (by rw [hw7]; exact below_alloc _ _)
  have HV7 : Hid (ListAt srvC 4 w7 (.slice (some ⟨w6.heap.size, 0, none⟩) 2 2) [⟨1, 0, 100000, 100000⟩, ⟨2, 5000, 100000, 100000⟩]) := Lib.hid (by rw [hw7]; exact list_new srvF w6 [⟨1, 0, 100000, 100000⟩, ⟨2, 5000, 100000, 100000⟩] 38)
  have HE7 := Lib.hid (HEQ.out _ _ _ (HU6.out.below HB7.out) HV7.out)
  rw [hw7] at HE7
  go_wp2_with fail
  refine HE7.out.mono ?_
  rintro e w8 ⟨rfl, hb8⟩
  have HFIN := Lib.hid (HB6.out.trans ((HB7.out.trans ((by rw [hw7]; exact hb8 : Below w7.heap.size w7 w8).mono HB7.out.size)).mono HB6.out.size))
  clear hb8
  go_wp2
  go_ret
  exact ⟨rfl, HFIN.out⟩

end Go.Proofs.Ytblidmkkbcobgaa
