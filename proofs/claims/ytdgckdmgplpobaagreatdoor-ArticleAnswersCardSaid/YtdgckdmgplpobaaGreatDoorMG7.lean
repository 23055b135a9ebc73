/- Texts of one claim, merged: PlainM, RpgL. -/
import Derived.Test.YtdgckdmgplpobaaGreatDoorMG3
import Derived.Test.YtdgckdmgplpobaaGreatDoorMRused
import Derived.Test.YtdgckdmgplpobaaGreatDoorMG5
import Derived.Deep.RegionHeld3
/- Plain articles as mathematics, the other way round: an article is plain exactly if its kind is one, it has the fields of its kind alone, and these are in their ranges; of no function of the program; no condition. -/
set_option linter.unusedSimpArgs false
set_option linter.unusedVariables false
namespace Go.Proofs.YtdgckdmgplpobaaGreatDoor
open Go.RowKit Go.Lib Go.Proofs

def usedA (a : Art) : Art :=
  if a.kind = 1 then { Art.none with kind := 1, year := a.year, number := a.number }
  else if a.kind = 2 then { Art.none with kind := 2, code := a.code, name := a.name }
  else if a.kind = 3 ∨ a.kind = 4 ∨ a.kind = 5 then { Art.none with kind := a.kind, code := a.code, year := a.year, amount := a.amount }
  else if a.kind = 6 then { Art.none with kind := 6, other := a.other, code := a.code, percent := a.percent }
  else if a.kind = 7 then { Art.none with kind := 7, code := a.code, year := a.year, amount := a.amount, day := a.day }
  else if a.kind = 8 then { Art.none with kind := 8, code := a.code, year := a.year, amount := a.amount, other := a.other, least := a.least }
  else if a.kind = 9 then { Art.none with kind := 9, number := a.number, code := a.code, other := a.other, percent := a.percent }
  else if a.kind = 10 then { Art.none with kind := 10, day := a.day, number := a.number, what := a.what, code := a.code, year := a.year, amount := a.amount }
  else { Art.none with kind := a.kind }

def spanB (n : Int) : Bool := decide (n = -1) || inB n 0 99

def chkB (a : Art) : Bool :=
  if a.kind = 1 then inB a.year 0 99 && (decide (1 ≤ a.number) && decide (a.number ≤ 4))
  else isCodeB a.code && (
    if a.kind = 2 then nameB a.name
    else if a.kind = 3 then inB a.year 0 99 && inB a.amount 0 1000000000000
    else if a.kind = 4 ∨ a.kind = 5 then spanB a.year && inB a.amount 0 1000000000000
    else if a.kind = 6 then isCodeB a.other && inB a.percent 0 100
    else if a.kind = 7 then inB a.year 0 99 && (inB a.amount 0 1000000000000 && inB a.day 0 35990)
    else if a.kind = 8 then inB a.year 0 99 && (inB a.amount 0 1000000000000 && (isCodeB a.other && inB a.least 0 1000000000000))
    else if a.kind = 9 then inB a.number 1 1000000 && (isCodeB a.other && inB a.percent 0 100)
    else inB a.day 0 35990 && (inB a.number 1 1000000 && (
      if a.what = 1 then inB a.year 0 99 && inB a.amount 0 1000000000000
      else if a.what = 2 then spanB a.year && (decide (a.amount = -1) || inB a.amount 0 1000000000000)
      else if a.what = 3 then spanB a.year && inB a.amount 0 1000000000000
      else false)))

theorem spanB_true {n : Int} : spanB n = true ↔ n = -1 ∨ 0 ≤ n ∧ n ≤ 99 := by
  unfold spanB
  rw [Bool.or_eq_true, decide_eq_true_eq, inB_true]

theorem plain_chk {a : Art} (h : textA a ≠ ⟨#[]⟩) : 1 ≤ a.kind ∧ a.kind ≤ 10 ∧ usedA a = a ∧ chkB a = true := by
  obtain ⟨f, hf, _, _, _, hok, _, he⟩ := plain_parts h
  clear h
  simp only [formsL, List.mem_cons, List.mem_nil_iff, or_false] at hf
  rcases hf with rfl | rfl | rfl | rfl | rfl | rfl | rfl | rfl | rfl | rfl | rfl | rfl
  all_goals
    simp only [litW, List.foldl_cons, List.foldl_nil, setOf, Art.none, List.mem_cons, List.mem_nil_iff, or_false, forall_eq_or_imp, forall_eq, okP, true_and] at hok he
    rw [← he]
    refine ⟨by simp, by simp, by simp [usedA, Art.none], ?_⟩
    simp [chkB, inB_true, spanB_true, hok]
    try omega

theorem chk_plain {a : Art} (h1 : 1 ≤ a.kind) (h2 : a.kind ≤ 10) (hu : usedA a = a) (hc : chkB a = true) : textA a ≠ ⟨#[]⟩ := by
  obtain ⟨k, cd, ot, nm, yr, am, pc, nu, dy, ls, wh⟩ := a
  simp only at h1 h2
  rcases (by omega : k = 1 ∨ k = 2 ∨ k = 3 ∨ k = 4 ∨ k = 5 ∨ k = 6 ∨ k = 7 ∨ k = 8 ∨ k = 9 ∨ k = 10) with rfl | rfl | rfl | rfl | rfl | rfl | rfl | rfl | rfl | rfl
  all_goals
    simp [usedA, Art.none] at hu
    simp [chkB, inB_true, spanB_true] at hc
  · obtain ⟨rfl, rfl, rfl, rfl, rfl, rfl, rfl, rfl⟩ := hu
    exact pl_years _ _ (by omega) (by omega)
  · obtain ⟨rfl, rfl, rfl, rfl, rfl, rfl, rfl, rfl⟩ := hu
    exact pl_heading _ _ hc.1 hc.2
  · obtain ⟨rfl, rfl, rfl, rfl, rfl, rfl, rfl⟩ := hu
    exact pl_line _ _ _ hc.1 (by omega) (by omega)
  · obtain ⟨rfl, rfl, rfl, rfl, rfl, rfl, rfl⟩ := hu
    exact pl_ceiling _ _ _ hc.1 (by omega) (by omega)
  · obtain ⟨rfl, rfl, rfl, rfl, rfl, rfl, rfl⟩ := hu
    exact pl_floor _ _ _ hc.1 (by omega) (by omega)
  · obtain ⟨rfl, rfl, rfl, rfl, rfl, rfl, rfl⟩ := hu
    exact pl_earmark _ _ _ hc.1 hc.2.1 (by omega)
  · obtain ⟨rfl, rfl, rfl, rfl, rfl, rfl⟩ := hu
    exact pl_wait _ _ _ _ hc.1 (by omega) (by omega) (by omega)
  · obtain ⟨rfl, rfl, rfl, rfl, rfl⟩ := hu
    exact pl_reach _ _ _ _ _ hc.1 hc.2.2.2.1 (by omega) (by omega) (by omega)
  · obtain ⟨rfl, rfl, rfl, rfl, rfl, rfl⟩ := hu
    exact pl_rule _ _ _ _ hc.1 hc.2.2.1 (by omega) (by omega)
  · obtain ⟨rfl, rfl, rfl, rfl⟩ := hu
    obtain ⟨c1, c2, c3, c4⟩ := hc
    by_cases w1 : wh = 1
    · subst w1
      simp at c4
      exact pl_aline _ _ _ _ _ c1 (by omega) (by omega) (by omega) (by omega)
    · rw [if_neg w1] at c4
      by_cases w2 : wh = 2
      · subst w2
        simp at c4
        exact pl_aceiling _ _ _ _ _ c1 (by omega) (by omega) (by omega) (by omega)
      · rw [if_neg w2] at c4
        by_cases w3 : wh = 3
        · subst w3
          simp at c4
          exact pl_afloor _ _ _ _ _ c1 (by omega) (by omega) (by omega) (by omega)
        · exact absurd c4.1 w3

end Go.Proofs.YtdgckdmgplpobaaGreatDoor

/- The contract of the article's reference's Plain, of articles that have the fields of their kinds alone: whether these are in their ranges. -/
namespace Go.Proofs.YtdgckdmgplpobaaGreatDoor
open Go.RowKit Go.Lib Go.Proofs

theorem raryear_is {n : Int} {b : Bool} (w : World) (h : inB n 0 99 = b) : Calls Tryz.prog 30 #[.int .i64 n] w fun e w' => e = .returned (.bool b) ∧ w = w' := by
  have := raryear_any n w; rw [h] at this; exact this
theorem rarnumber_is {n : Int} {b : Bool} (w : World) (h : inB n 1 1000000 = b) : Calls Tryz.prog 36 #[.int .i64 n] w fun e w' => e = .returned (.bool b) ∧ w = w' := by
  have := rarnumber_any n w; rw [h] at this; exact this
theorem rarpercent_is {n : Int} {b : Bool} (w : World) (h : inB n 0 100 = b) : Calls Tryz.prog 34 #[.int .i64 n] w fun e w' => e = .returned (.bool b) ∧ w = w' := by
  have := rarpercent_any n w; rw [h] at this; exact this
theorem rarday_is {n : Int} {b : Bool} (w : World) (h : inB n 0 35990 = b) : Calls Tryz.prog 35 #[.int .i64 n] w fun e w' => e = .returned (.bool b) ∧ w = w' := by
  have := rarday_any n w; rw [h] at this; exact this
theorem rmValid_is {n : Int} {b : Bool} (w : World) (h : inB n 0 1000000000000 = b) : Calls Tryz.prog 33 #[.int .i64 n] w fun e w' => e = .returned (.bool b) ∧ w = w' := by
  have := rmValid_any n w; rw [h] at this; exact this
theorem rarcode_is {s : ByteArray} {b : Bool} (w : World) (hs : s.size ≤ 1000000) (h : isCodeB s = b) : Calls Tryz.prog 31 #[.string s] w fun e w' => e = .returned (.bool b) ∧ Below w.heap.size w w' := by
  have := rarcode_any s w hs; rw [h] at this; exact this
theorem rclValid_is (s : ByteArray) (w : World) {x : Int} (hs : s.size ≤ 1000000) (h : (if nameB s = true then (0 : Int) else 4) = x) : Calls Tryz.prog 32 #[.slice (some ⟨w.heap.size, 0, none⟩) 1 1] (w.alloc (.cells #[.string ⟨#[49]⟩, .string s] 53)) fun e w' => e = .returned (.int .i64 x) ∧ Below (w.alloc (.cells #[.string ⟨#[49]⟩, .string s] 53)).heap.size (w.alloc (.cells #[.string ⟨#[49]⟩, .string s] 53)) w' := by
  have := rclValid_one s w.heap.size 1 (Nat.le_refl _) (w.alloc (.cells #[.string ⟨#[49]⟩, .string s] 53)) hs ⟨by rw [cell_of_row _ _ _ _ _ _ (heap_alloc_new _ _)]; rfl, by rw [cell_of_row _ _ _ _ _ _ (heap_alloc_new _ _)]; rfl, by simp, Below.refl _ _⟩
  rw [h] at this
  exact this
theorem boxg_below {w W : World} {A : Array Value} (h : Below (w.heap.size + 1) (w.alloc (.cells A 24)) W) : ∀ j, W.cell? ⟨w.heap.size, j, none⟩ = A[j]? := fun j =>
  art_cell (W := W) (b := w.heap.size) ((h.block w.heap.size (by omega)).trans (heap_alloc_new w _)) j

end Go.Proofs.YtdgckdmgplpobaaGreatDoor
