/- The contract of treasurylaw03.awake: the example of the chapter holds, whatever the world; nothing that was there turns. -/
import Derived.Test.YtionnohajnnfmaaGreatDoorCodeM
import Derived.Test.YtionnohajnnfmaaGreatDoorClValid
import Derived.Test.YtionnohajnnfmaaGreatDoorClLeaves
import Derived.Test.YtionnohajnnfmaaGreatDoorTexts
namespace Go.Proofs.YtionnohajnnfmaaGreatDoor
open Go.RowKit Go.Lib Go.Proofs

theorem good1 {a : Nat} (h : 1 ≤ a ∧ a ≤ 99) : GoodN [a] := ⟨by simp, by simp, by simpa using h⟩
theorem good2 {a b : Nat} (h : 1 ≤ a ∧ a ≤ 99) (g : 1 ≤ b ∧ b ≤ 99) : GoodN [a, b] := ⟨by simp, by simp, by intro n hn; simp at hn; rcases hn with rfl | rfl <;> assumption⟩

theorem t1 : (⟨#[49]⟩ : ByteArray) = codeT [1] := by unfold codeT; simp [joinL, txt, dec_one 1 (by omega)]
theorem t3 : (⟨#[51]⟩ : ByteArray) = codeT [3] := by unfold codeT; simp [joinL, txt, dec_one 3 (by omega)]
theorem t30 : (⟨#[51, 48]⟩ : ByteArray) = codeT [30] := by unfold codeT; simp [joinL, txt, dec_two 30 (by omega) (by omega)]
theorem t39 : (⟨#[51, 46, 57]⟩ : ByteArray) = codeT [3, 9] := by unfold codeT; simp [joinL, txt, dec_one 3 (by omega), dec_one 9 (by omega)]
theorem t310 : (⟨#[51, 46, 49, 48]⟩ : ByteArray) = codeT [3, 10] := by unfold codeT; simp [joinL, txt, dec_one 3 (by omega), dec_two 10 (by omega) (by omega)]

/-- The list of the example. -/
def exHeads : List Head := [(⟨#[49]⟩, ⟨#[97]⟩), (⟨#[51]⟩, ⟨#[98]⟩), (⟨#[51, 46, 57]⟩, ⟨#[99]⟩), (⟨#[51, 46, 49, 48]⟩, ⟨#[100]⟩)]

theorem ex_ok : HeadsOk exHeads := by
  intro h hh
  simp only [exHeads, List.mem_cons, List.mem_nil_iff, or_false] at hh
  rcases hh with rfl | rfl | rfl | rfl <;> decide

theorem g1 : GoodN [1] := good1 (by omega)
theorem g3 : GoodN [3] := good1 (by omega)
theorem g30 : GoodN [30] := good1 (by omega)
theorem g39 : GoodN [3, 9] := good2 (by omega) (by omega)
theorem g310 : GoodN [3, 10] := good2 (by omega) (by omega)

theorem ex_cmp : cmpCode ⟨#[51, 46, 57]⟩ ⟨#[51, 46, 49, 48]⟩ = -1 := by rw [t39, t310, cmpCode_codeT g39 g310]; decide
theorem ex_under (a b : List Nat) (ha : GoodN a) (hb : GoodN b) (r : Bool) (h : decide (b <+: a) = r) : underB (codeT a) (codeT b) = r := by
  rw [← h, Bool.eq_iff_iff, underB_codeT ha hb]; simp
theorem ex_u1 : underB ⟨#[51, 46, 49, 48]⟩ ⟨#[51]⟩ = true := by rw [t310, t3]; exact ex_under _ _ g310 g3 _ (by decide)
theorem ex_u2 : underB ⟨#[51]⟩ ⟨#[51]⟩ = true := by rw [t3]; exact ex_under _ _ g3 g3 _ (by decide)
theorem ex_u3 : underB ⟨#[51, 48]⟩ ⟨#[51]⟩ = false := by rw [t30, t3]; exact ex_under _ _ g30 g3 _ (by decide)

theorem p1 : parentB ⟨#[49]⟩ = ⟨#[]⟩ := by rw [t1, parentB_codeT g1]; rfl
theorem p3 : parentB ⟨#[51]⟩ = ⟨#[]⟩ := by rw [t3, parentB_codeT g3]; rfl
theorem p39 : parentB ⟨#[51, 46, 57]⟩ = ⟨#[51]⟩ := by rw [t39, parentB_codeT g39, t3]; rfl
theorem p310 : parentB ⟨#[51, 46, 49, 48]⟩ = ⟨#[51]⟩ := by rw [t310, parentB_codeT g310, t3]; rfl
theorem i1 : isCodeB ⟨#[49]⟩ = true := by rw [t1]; exact isCodeB_codeT g1
theorem i3 : isCodeB ⟨#[51]⟩ = true := by rw [t3]; exact isCodeB_codeT g3
theorem i39 : isCodeB ⟨#[51, 46, 57]⟩ = true := by rw [t39]; exact isCodeB_codeT g39
theorem i310 : isCodeB ⟨#[51, 46, 49, 48]⟩ = true := by rw [t310]; exact isCodeB_codeT g310

theorem ex_codes : codesOf exHeads = [⟨#[49]⟩, ⟨#[51]⟩, ⟨#[51, 46, 57]⟩, ⟨#[51, 46, 49, 48]⟩] := by
  simp [codesOf, exHeads, i1, i3, i39, i310]

theorem ex_leaves : leavesOf exHeads ⟨#[]⟩ = [⟨#[49]⟩, ⟨#[51, 46, 57]⟩, ⟨#[51, 46, 49, 48]⟩] := by
  unfold leavesOf leftB
  rw [ex_codes]
  simp only [List.map_cons, List.map_nil, p1, p3, p39, p310, coversB_all]
  decide

theorem c13 : cmpCode ⟨#[49]⟩ ⟨#[51]⟩ = -1 := by rw [t1, t3, cmpCode_codeT g1 g3]; decide
theorem c339 : cmpCode ⟨#[51]⟩ ⟨#[51, 46, 57]⟩ = -1 := by rw [t3, t39, cmpCode_codeT g3 g39]; decide

theorem ex_valid : faultOf exHeads = (0, 0) := by
  refine faultOf_none (by decide) fun i hi => ?_
  have hh : i = 0 ∨ i = 1 ∨ i = 2 ∨ i = 3 := by simp [exHeads] at hi; omega
  have hpar : hasHeadB exHeads ⟨#[51]⟩ = true := by
    unfold hasHeadB
    rw [i3]
    decide
  rcases hh with rfl | rfl | rfl | rfl
  · simp [headFault, exHeads, i1, hasParentB, p1]
    decide
  · simp [headFault, exHeads, i3, hasParentB, p3, codeAt, c13]
    decide
  · simp only [headFault, exHeads, List.getElem?_cons_succ, List.getElem?_cons_zero, i39, codeAt, c339, hasParentB, p39]
    rw [show hasHeadB [(⟨#[49]⟩, ⟨#[97]⟩), (⟨#[51]⟩, ⟨#[98]⟩), (⟨#[51, 46, 57]⟩, ⟨#[99]⟩), (⟨#[51, 46, 49, 48]⟩, ⟨#[100]⟩)] ⟨#[51]⟩ = true from hpar]
    decide
  · simp only [headFault, exHeads, List.getElem?_cons_succ, List.getElem?_cons_zero, i310, codeAt, ex_cmp, hasParentB, p310]
    rw [show hasHeadB [(⟨#[49]⟩, ⟨#[97]⟩), (⟨#[51]⟩, ⟨#[98]⟩), (⟨#[51, 46, 57]⟩, ⟨#[99]⟩), (⟨#[51, 46, 49, 48]⟩, ⟨#[100]⟩)] ⟨#[51]⟩ = true from hpar]
    decide

/-- The example's list in memory. -/
def exWorld (w : World) : World := w.alloc (.cells #[.string ⟨#[49]⟩, .string ⟨#[97]⟩, .string ⟨#[51]⟩, .string ⟨#[98]⟩, .string ⟨#[51, 46, 57]⟩, .string ⟨#[99]⟩, .string ⟨#[51, 46, 49, 48]⟩, .string ⟨#[100]⟩] 37)

theorem ex_row (w : World) : RowG (exWorld w) (.slice (some ⟨w.heap.size, 0, none⟩) 4 4) exHeads.length 2 (cellsH exHeads) :=
  RowG.owns (World.ownsRow_lit (base := w.heap.size) (size := 2) (e := 37) w _ 4 (Nat.le_refl _) (by decide) rfl)

theorem three_row (w : World) (a b c : ByteArray) (T : TypeId) : RowG (w.alloc (.cells #[.string a, .string b, .string c] T)) (.slice (some ⟨w.heap.size, 0, none⟩) 3 3) [a, b, c].length 1 (cellsS [a, b, c]) :=
  RowG.owns (World.ownsRow_lit (base := w.heap.size) (size := 1) (e := T) w _ 3 (Nat.le_refl _) (by decide) rfl)

set_option maxRecDepth 100000 in
set_option maxHeartbeats 4000000 in
theorem awake03_any (w : World) (hL : Lay w) : Calls Tryz.prog 16 #[] w fun e w' => e = .returned (.bool true) ∧ Below w.heap.size w w' := by
  have h0 : Below w.heap.size w (exWorld w) := below_alloc w _
  have hl : ∀ W, Below w.heap.size w W → Lay W := fun W h => hL.below h (Nat.le_refl _)
  have hr : ∀ W, Below (exWorld w).heap.size (exWorld w) W → RowG W (.slice (some ⟨w.heap.size, 0, none⟩) 4 4) exHeads.length 2 (cellsH exHeads) := fun W h => (ex_row w).below h
  have hcmp := fun W (h : Below w.heap.size w W) => clCompare_any ⟨#[51, 46, 57]⟩ ⟨#[51, 46, 49, 48]⟩ W (hl W h) (by decide) (by decide)
  have hu1 := fun W (h : Below w.heap.size w W) => clUnder_any ⟨#[51, 46, 49, 48]⟩ ⟨#[51]⟩ W (hl W h) (by decide) (by decide)
  have hu2 := fun W (h : Below w.heap.size w W) => clUnder_any ⟨#[51]⟩ ⟨#[51]⟩ W (hl W h) (by decide) (by decide)
  have hu3 := fun W (h : Below w.heap.size w W) => clUnder_any ⟨#[51, 48]⟩ ⟨#[51]⟩ W (hl W h) (by decide) (by decide)
  have hv := fun W (h : Below (exWorld w).heap.size (exWorld w) W) => clValid_any exHeads _ W (hl W (h0.trans (h.mono h0.size))) (hr W h) (by decide) ex_ok
  have hle := fun W (h : Below (exWorld w).heap.size (exWorld w) W) => clLeaves_any exHeads _ ⟨#[]⟩ W (hl W (h0.trans (h.mono h0.size))) (hr W h) (by decide) ex_ok (by decide)
  simp only [ex_cmp] at hcmp
  simp only [ex_u1] at hu1
  simp only [ex_u2] at hu2
  simp only [ex_u3] at hu3
  simp only [ex_valid] at hv
  simp only [ex_leaves] at hle
  have H1 := Lib.hid hcmp
  have H2 := Lib.hid hu1
  have H3 := Lib.hid hv
  have H4 := Lib.hid hu2
  have H5 := Lib.hid hu3
  have H6 := Lib.hid hle
  have H0 := Lib.hid h0
  clear hcmp hu1 hu2 hu3 hv hle hr hl hL h0
  go_enter Tryz.func16, Tryz.ntmps16
  go_wp2_with fail
  change Calls Tryz.prog _ _ (exWorld w) _
  refine (H1.out _ H0.out).mono ?_
  rintro e w1 ⟨rfl, hb1⟩
  have B1 := Lib.hid hb1
  clear hb1
  go_wp2_with fail
  refine (H2.out _ (H0.out.trans (B1.out.mono H0.out.size))).mono ?_
  rintro e w2 ⟨rfl, hb2⟩
  have B2 := Lib.hid (B1.out.trans (hb2.mono B1.out.size))
  clear hb2 B1
  go_wp2_with fail
  refine (H3.out _ B2.out).mono ?_
  rintro e w3 ⟨rfl, hb3⟩
  have B3 := Lib.hid (B2.out.trans (hb3.mono B2.out.size))
  clear hb3 B2
  go_wp2_with fail
  refine (H4.out _ (H0.out.trans (B3.out.mono H0.out.size))).mono ?_
  rintro e w4 ⟨rfl, hb4⟩
  have B4 := Lib.hid (B3.out.trans (hb4.mono B3.out.size))
  clear hb4 B3
  go_wp2_with fail
  refine (H5.out _ (H0.out.trans (B4.out.mono H0.out.size))).mono ?_
  rintro e w5 ⟨rfl, hb5⟩
  have B5 := Lib.hid (B4.out.trans (hb5.mono B4.out.size))
  clear hb5 B4
  go_wp2_with fail
  refine (H6.out _ B5.out).mono ?_
  rintro e w6 ⟨u, rfl, ho6, hb6⟩
  have B6 := Lib.hid (B5.out.trans (hb6.mono B5.out.size))
  have hrow := RowG.owns ho6
  have ht : ∀ T, Calls Tryz.prog 47 #[u, .slice (some ⟨w6.heap.size, 0, none⟩) 3 3] (w6.alloc (.cells #[.string ⟨#[49]⟩, .string ⟨#[51, 46, 57]⟩, .string ⟨#[51, 46, 49, 48]⟩] T)) fun e w' => e = .returned (.bool true) ∧ Below (w6.alloc (.cells #[.string ⟨#[49]⟩, .string ⟨#[51, 46, 57]⟩, .string ⟨#[51, 46, 49, 48]⟩] T)).heap.size (w6.alloc (.cells #[.string ⟨#[49]⟩, .string ⟨#[51, 46, 57]⟩, .string ⟨#[51, 46, 49, 48]⟩] T)) w' := fun T => by
    have := Texts_any [⟨#[49]⟩, ⟨#[51, 46, 57]⟩, ⟨#[51, 46, 49, 48]⟩] [⟨#[49]⟩, ⟨#[51, 46, 57]⟩, ⟨#[51, 46, 49, 48]⟩] u (.slice (some ⟨w6.heap.size, 0, none⟩) 3 3) (w6.alloc (.cells #[.string ⟨#[49]⟩, .string ⟨#[51, 46, 57]⟩, .string ⟨#[51, 46, 49, 48]⟩] T)) (hrow.below (below_alloc _ _)) (three_row w6 _ _ _ T) (by decide) (by decide)
    rw [decide_eq_true rfl] at this
    exact this
  have HT := Lib.hid ht
  clear hb6 B5 ho6 hrow ht
  go_wp2_with fail
  refine (HT.out _).mono ?_
  rintro e w7 ⟨rfl, hb7⟩
  have hz := (below_alloc w6 (.cells #[.string ⟨#[49]⟩, .string ⟨#[51, 46, 57]⟩, .string ⟨#[51, 46, 49, 48]⟩] 9)).size
  have hfin := H0.out.trans ((B6.out.trans (((below_alloc w6 _).trans (hb7.mono hz)).mono B6.out.size)).mono H0.out.size)
  go_wp2
  go_ret
  exact ⟨rfl, hfin⟩

end Go.Proofs.YtionnohajnnfmaaGreatDoor
