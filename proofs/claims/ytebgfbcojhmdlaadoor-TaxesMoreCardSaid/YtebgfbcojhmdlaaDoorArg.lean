/- An argument of type []int of a statement is a slice of int64s in memory; no condition. -/
import Derived.Test.YtebgfbcojhmdlaaDoorTap
import Derived.Test.YtebgfbcojhmdlaaDoorLaw
namespace Go.Proofs.YtebgfbcojhmdlaaDoor
open Go.ChangeShapes Go.WideShapes Go.ChangeAt Go.RowKit

theorem Tryd.cellsInt : Tryd.prog.cellsOf 3 = 1 := by kernel_rfl

set_option maxRecDepth 100000 in
/-- An argument of type []int is a slice of int64s. -/
theorem ints_arg {H : Type} {enc : TypeId × Value → H} {W : World} {base : Nat} {v : Value} {d : DataW H} {p0 : List MemPlace} (hv : Value.okWide Tryd.prog W .any base 22 v) (h0 : DataW.Trod enc Tryd.prog W 0 (fun _ => true) true 22 v d p0) :
    ∃ n, n ≤ 9223372036854775807 ∧ IntsAt W v n W.heap.size := by
  obtain ⟨a0, len, cap, rfl⟩ := okWide_slice Tryd.underlying22 hv
  obtain ⟨fuel, hf⟩ := h0
  rcases open_ints Tryd.underlying22 Tryd.underlying3 Tryd.cellsInt hf with ⟨hcs, hx⟩ | ⟨a, len', cap', zs, hcs, _, hl, hm, hz, hx, hcell, hwz⟩
  · simp [Value.cells] at hcs
    obtain ⟨rfl, rfl, rfl⟩ := hcs
    exact ⟨0, by omega, none, 0, rfl, Nat.le_refl _, fun i hi => by omega⟩
  · simp [Value.cells] at hcs
    obtain ⟨rfl, rfl, rfl⟩ := hcs
    simp only [if_true] at hz
    refine ⟨len, by unfold maxLen at hm; omega, some a, cap, rfl, hl, fun i hi => ?_⟩
    obtain ⟨b, off, spot⟩ := a
    have hspot : spot = none := by simpa [Addr.add] using World.cell?_spot (hcell 0 (by omega))
    subst hspot
    have hi' : i < zs.length := by omega
    have hc := hcell i hi'
    have hw := hwz _ (List.getElem_mem hi')
    simp only [Lit.wf, Bool.and_eq_true, decide_eq_true_eq] at hw
    rw [getD_eq hi', add_plain] at hc
    refine ⟨b, off, zs[i], rfl, ?_, hc, Int.le_trans (by decide) hw.1, Int.le_trans hw.2 (by decide)⟩
    by_cases hb : b < W.heap.size
    · exact hb
    · rw [World.cell?, show W.heap[b]? = none from Array.getElem?_eq_none (by omega)] at hc
      cases hc

end Go.Proofs.YtebgfbcojhmdlaaDoor
