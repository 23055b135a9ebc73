/- An older claim has no smaller provision, none is more than the claim, and a paid claim has none: for every tape and day. -/
import Derived.Test.YtknmgkjfopoinaaGreatDoorMG4
import Derived.Test.YtknmgkjfopoinaaGreatDoorMSrcI
set_option linter.unusedSimpArgs false
set_option linter.unusedVariables false
set_option linter.unusedSimpArgs false
set_option linter.unusedVariables false
namespace Go.Proofs.YtknmgkjfopoinaaGreatDoor
open Go.RowKit Go.Lib Go.Proofs

theorem list_newA {α : Type} {f : α → List Value} {m : Nat} (hf : Fields f m) (w : World) (l : List α) (T : TypeId) : ListAt f m (w.alloc (.cells (cellsL f l).toArray T)) (.slice (some ⟨w.heap.size, 0, none⟩) l.length l.length) l := by
  refine ⟨cellsL_len hf l, _, _, rfl, Nat.le_refl _, Or.inr ⟨w.heap.size, 0, rfl, by simp, fun j hj => ?_⟩⟩
  rw [Nat.zero_add, obj_cell (heap_alloc_new w (.cells (cellsL f l).toArray T)) j]
  simp
theorem saneC_ok : ClmOk (⟨1, 1, 1000, 1000, 0, ⟨#[49]⟩⟩ : Clm) := ⟨by simp, by simp, by simp, by simp, by simp, rfl⟩

set_option maxRecDepth 100000 in
set_option maxHeartbeats 4000000 in
theorem sane41_true (w : World) (hL : Lay w) : Calls Tryz.prog 15 #[] w fun e w' => e = .returned (.bool true) ∧ Below w.heap.size w w' := by
  obtain ⟨w1, hw1⟩ : ∃ W, W = w.alloc (.cells #[.int .i64 1, .int .i64 1, .int .i64 1000, .int .i64 1000, .int .i64 0, .string ⟨#[49]⟩] 39) := ⟨_, rfl⟩
  have HB1 : Hid (Below w.heap.size w w1) := Lib.hid (by rw [hw1]; exact below_alloc _ _)
  have HL1 : Hid (ListAt clmC 6 w1 (.slice (some ⟨w.heap.size, 0, none⟩) 1 1) [(⟨1, 1, 1000, 1000, 0, ⟨#[49]⟩⟩ : Clm)]) := Lib.hid (by rw [hw1]; exact list_newA clmF w ([⟨1, 1, 1000, 1000, 0, ⟨#[49]⟩⟩] : List Clm) 39)
  have HPV := Lib.hid (aaprov_one saneC_ok 100 ⟨by decide, by decide⟩ _ w1 (hL.below HB1.out (Nat.le_refl _)) HL1.out)
  rw [show ((⟨1, 1, 1000, 1000, 0, ⟨#[49]⟩⟩ : Clm).opn * pctA (100 - (⟨1, 1, 1000, 1000, 0, ⟨#[49]⟩⟩ : Clm).day) / 100) = 250 by decide] at HPV
  have HW1 := Lib.hid hw1
  clear hw1 hL
  go_enter Tryz.func15, Tryz.ntmps15
  go_wp2_with fail
  rw [← HW1.out]
  refine (HPV.out).mono ?_
  rintro e w2 ⟨rfl, hb2⟩
  have HB2 := Lib.hid (HB1.out.trans (hb2.mono HB1.out.size))
  clear hb2
  go_wp2
  go_ret
  exact ⟨rfl, HB2.out⟩

end Go.Proofs.YtknmgkjfopoinaaGreatDoor
