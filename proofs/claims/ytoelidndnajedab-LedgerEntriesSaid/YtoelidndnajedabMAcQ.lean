/- Contracts of the account's reference's Subs and Entries: whether two lists are equal. -/
import Derived.Test.YtoelidndnajedabMAcC
set_option linter.unusedSimpArgs false
set_option linter.unusedVariables false
namespace Go.Proofs.Ytoelidndnajedab
open Go.RowKit Go.Lib Go.Proofs

theorem SubsAt.shape {w : World} {v : Value} {l : List SubA} (h : SubsAt w v l) : ∃ ao cap, v = .slice ao l.length cap ∧ l.length ≤ cap ∧ (0 < l.length → ∃ b o, ao = some ⟨b, o, none⟩ ∧ b < w.heap.size ∧ ∀ i, i < l.length → w.cell? ⟨b, o + i * 2, none⟩ = some (.int .i64 (subAt l i).id) ∧ w.cell? ⟨b, o + i * 2 + 1, none⟩ = some (.int .i64 (subAt l i).bal)) := by
  rcases h.open with ⟨rfl, ao, cap, rfl⟩ | ⟨_, b, o, cap, rfl, hcap, hb, hc⟩
  · exact ⟨ao, cap, rfl, Nat.zero_le _, fun h => by simp at h⟩
  · exact ⟨_, cap, rfl, hcap, fun _ => ⟨b, o, rfl, hb, hc⟩⟩

def sameN : List Ent → List Ent → Bool
  | [], [] => true
  | s :: l, t :: m => (decide (s.number = t.number) && (decide (s.day = t.day) && (decide (s.frm = t.frm) && (decide (s.to = t.to) && (decide (s.amount = t.amount) && decide (s.ref = t.ref)))))) && sameN l m
  | _, _ => false
theorem sameN_eq : ∀ {l m : List Ent}, sameN l m = true ↔ l = m
  | [], [] => by simp [sameN]
  | [], _ :: _ => by simp [sameN]
  | _ :: _, [] => by simp [sameN]
  | ⟨a, b, c, d, e, f⟩ :: l, ⟨a', b', c', d', e', f'⟩ :: m => by
    simp [sameN, sameN_eq (l := l) (m := m)]
theorem ents_eq {l m : List Ent} (hl : l.length = m.length) (h : ∀ j, j < m.length → entAt l j = entAt m j) : l = m := by
  apply List.ext_getElem hl
  intro i h1 h2
  have := h i h2
  rwa [entAt_get h1, entAt_get h2] at this

theorem ent_neq_same (a b c d e f : Int) (W : World) : (binOp .neq 86 (.agg #[.int .i64 a, .int .i64 b, .int .i64 c, .int .i64 d, .int .i64 e, .int .i64 f]) (.agg #[.int .i64 a, .int .i64 b, .int .i64 c, .int .i64 d, .int .i64 e, .int .i64 f])).run Try.prog W = .ok (.bool false) W := by
  rw [run_neq_struct]
  simp [go_sem]
theorem ent_neq_differ (a b c d e f a' b' c' d' e' f' : Int) (h : ¬ (a = a' ∧ b = b' ∧ c = c' ∧ d = d' ∧ e = e' ∧ f = f')) (W : World) : (binOp .neq 86 (.agg #[.int .i64 a, .int .i64 b, .int .i64 c, .int .i64 d, .int .i64 e, .int .i64 f]) (.agg #[.int .i64 a', .int .i64 b', .int .i64 c', .int .i64 d', .int .i64 e', .int .i64 f'])).run Try.prog W = .ok (.bool true) W := by
  rw [run_neq_struct]
  by_cases h1 : a = a'
  · by_cases h2 : b = b'
    · by_cases h3 : c = c'
      · by_cases h4 : d = d'
        · by_cases h5 : e = e'
          · have h6 : (f == f') = false := by rw [beq_eq_false_iff_ne]; exact fun g => h ⟨h1, h2, h3, h4, h5, g⟩
            subst h1 h2 h3 h4 h5
            simp [go_sem, h6]
          · have h6 : (e == e') = false := by rw [beq_eq_false_iff_ne]; exact h5
            subst h1 h2 h3 h4
            simp [go_sem, h6]
        · have h6 : (d == d') = false := by rw [beq_eq_false_iff_ne]; exact h4
          subst h1 h2 h3
          simp [go_sem, h6]
      · have h6 : (c == c') = false := by rw [beq_eq_false_iff_ne]; exact h3
        subst h1 h2
        simp [go_sem, h6]
    · have h6 : (b == b') = false := by rw [beq_eq_false_iff_ne]; exact h2
      subst h1
      simp [go_sem, h6]
  · have h6 : (a == a') = false := by rw [beq_eq_false_iff_ne]; exact h1
    simp [go_sem, h6]

end Go.Proofs.Ytoelidndnajedab
