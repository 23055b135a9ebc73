/- Slices of numbers, wherever they lie: what stands at each place; of no function of the program; no condition. -/
import Derived.Test.YtoelidndnajedaaRowC
namespace Go.Proofs.Ytoelidndnajedaa
open Go.RowKit Go.Lib Go.Proofs

/-- A slice of numbers, wherever it lies. -/
def NumsAt (w : World) (v : Value) (l : List Int) : Prop := RowG w v l.length 1 (cellsI l)
theorem NumsAt.below {w w' : World} {v : Value} {l : List Int} (h : NumsAt w v l) (hb : Below w.heap.size w w') : NumsAt w' v l := RowG.below h hb
theorem NumsAt.shape {w : World} {v : Value} {l : List Int} (h : NumsAt w v l) : ∃ ao cap, v = .slice ao l.length cap ∧ l.length ≤ cap ∧ (0 < l.length → ∃ b o, ao = some ⟨b, o, none⟩ ∧ b < w.heap.size ∧ ∀ i, i < l.length → w.cell? ⟨b, o + i, none⟩ = some (.int .i64 (l.getD i 0))) := by
  obtain ⟨_, ao, cap, rfl, hcap, hc⟩ := h
  refine ⟨ao, cap, rfl, hcap, fun hpos => ?_⟩
  rcases hc with hc | ⟨b, o, rfl, hb, hc⟩
  · omega
  · exact ⟨b, o, rfl, hb, fun i hi => by rw [hc i (by omega), cellsI_get l i hi]⟩
theorem NumsAt.owns {w : World} {base : Nat} {e : TypeId} {v : Value} {l : List Int} (h : w.ownsRow base e 1 v l.length (cellsI l)) : NumsAt w v l := RowG.owns h

end Go.Proofs.Ytoelidndnajedaa
