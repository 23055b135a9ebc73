/- Contracts of treasurymake's tape: New and N; a tape's numbers are any int64s; what N returns is within its bounds, and only the tape's place has turned. -/
import Derived.Test.YtebgfbcojhmdlaaDoorBase
namespace Go.Proofs.YtebgfbcojhmdlaaDoor
open Go.RowKit Go.Lib Go.Proofs

/-- v is a slice of n int64s in the world w, all in blocks below B. -/
def IntsAt (w : World) (v : Value) (n B : Nat) : Prop :=
  ∃ (ao : Option Addr) (cap : Nat), v = .slice ao n cap ∧ n ≤ cap ∧ ∀ i, i < n → ∃ (b o : Nat) (x : Int), ao = some ⟨b, o, none⟩ ∧ b < B ∧ w.cell? ⟨b, o + i, none⟩ = some (.int .i64 x) ∧ -9223372036854775808 ≤ x ∧ x ≤ 9223372036854775807

theorem IntsAt.keep {w w' : World} {v : Value} {n B : Nat} (h : IntsAt w v n B) (hk : ∀ k, k < B → w'.heap[k]? = w.heap[k]?) : IntsAt w' v n B := by
  obtain ⟨ao, cap, hv, hc, hx⟩ := h
  refine ⟨ao, cap, hv, hc, fun i hi => ?_⟩
  obtain ⟨b, o, x, h1, h2, h3, h4⟩ := hx i hi
  exact ⟨b, o, x, h1, h2, by rw [World.cell?_of_block (w := w) (hk b h2)]; exact h3, h4⟩

theorem cell_pair {w : World} {tb : Nat} {a b : Value} {T : TypeId} (h : w.heap[tb]? = some (.cells #[a, b] T (0, 0))) : w.cell? ⟨tb, 0, none⟩ = some a ∧ w.cell? ⟨tb, 1, none⟩ = some b ∧ w.frozen? ⟨tb, 1, none⟩ = false := by
  simp [World.cell?, World.frozen?, h]

end Go.Proofs.YtebgfbcojhmdlaaDoor
