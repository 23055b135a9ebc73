/- How sub-accounts, entries and accounts lie in memory; of no function of the program; no condition. -/
import Derived.Test.YtoelidndnajedaaAcM
import Derived.Test.YtoelidndnajedaaRowC
namespace Go.Proofs.Ytoelidndnajedaa
open Go.RowKit Go.Lib Go.Proofs

def cellsU : List SubA → List Value
  | [] => []
  | s :: l => .int .i64 s.id :: .int .i64 s.bal :: cellsU l
def Ent.cells (e : Ent) : List Value := [.int .i64 e.number, .int .i64 e.day, .int .i64 e.frm, .int .i64 e.to, .int .i64 e.amount, .int .i64 e.ref]
def cellsN : List Ent → List Value
  | [] => []
  | e :: l => e.cells ++ cellsN l
def entAt (l : List Ent) (i : Nat) : Ent := l.getD i Ent.zero
theorem entAt_get {l : List Ent} {i : Nat} (h : i < l.length) : entAt l i = l[i] := by simp [entAt, List.getD, List.getElem?_eq_getElem h]

theorem cellsU_len : ∀ l : List SubA, (cellsU l).length = l.length * 2
  | [] => rfl
  | s :: l => by simp only [cellsU, List.length_cons, cellsU_len l]; omega
theorem cellsN_len : ∀ l : List Ent, (cellsN l).length = l.length * 6
  | [] => rfl
  | e :: l => by simp only [cellsN, Ent.cells, List.length_append, List.length_cons, List.length_nil, cellsN_len l]; omega
theorem cellsU_get : ∀ (l : List SubA) (i : Nat), i < l.length → (cellsU l)[i * 2]? = some (.int .i64 (subAt l i).id) ∧ (cellsU l)[i * 2 + 1]? = some (.int .i64 (subAt l i).bal)
  | [], _, h => by simp at h
  | s :: l, 0, _ => ⟨rfl, rfl⟩
  | s :: l, i + 1, h => by
    have ih := cellsU_get l i (by simpa using h)
    rw [show (i + 1) * 2 = i * 2 + 1 + 1 by omega]
    exact ih
theorem cellsN_get : ∀ (l : List Ent) (i j : Nat), i < l.length → j < 6 → (cellsN l)[i * 6 + j]? = (entAt l i).cells[j]?
  | [], _, _, h, _ => by simp at h
  | e :: l, 0, j, _, hj => by
    rw [Nat.zero_mul, Nat.zero_add]
    exact List.getElem?_append_left (by simpa [Ent.cells] using hj)
  | e :: l, i + 1, j, h, hj => by
    have ih := cellsN_get l i j (by simpa using h) hj
    rw [show (i + 1) * 6 + j = e.cells.length + (i * 6 + j) by simp [Ent.cells]; omega]
    show (e.cells ++ cellsN l)[e.cells.length + (i * 6 + j)]? = _
    rw [List.getElem?_append_right (by omega), Nat.add_sub_cancel_left, ih]
    rfl
theorem cellsU_app : ∀ l m : List SubA, cellsU (l ++ m) = cellsU l ++ cellsU m
  | [], _ => rfl
  | s :: l, m => by simp only [List.cons_append, cellsU, cellsU_app l m]
theorem cellsN_app : ∀ l m : List Ent, cellsN (l ++ m) = cellsN l ++ cellsN m
  | [], _ => rfl
  | s :: l, m => by simp only [List.cons_append, cellsN, cellsN_app l m, List.append_assoc]
theorem cellsU_set : ∀ (l : List SubA) (i : Nat) (x : Int), i < l.length → (cellsU l).set (i * 2 + 1) (.int .i64 x) = cellsU (l.set i ⟨(subAt l i).id, x⟩)
  | [], _, _, h => by simp at h
  | s :: l, 0, x, _ => rfl
  | s :: l, i + 1, x, h => by
    have ih := cellsU_set l i x (by simpa using h)
    rw [show (i + 1) * 2 + 1 = i * 2 + 1 + 1 + 1 by omega]
    simp only [cellsU, List.set_cons_succ, ih]
    rfl
theorem cellsU_one : ∀ (l : List SubA), ∀ u ∈ cellsU l, u.oneCell' = true
  | [], u, h => by simp [cellsU] at h
  | s :: l, u, h => by
    simp only [cellsU, List.mem_cons] at h
    rcases h with rfl | rfl | h
    · rfl
    · rfl
    · exact cellsU_one l u h
theorem cellsN_one : ∀ (l : List Ent), ∀ u ∈ cellsN l, u.oneCell' = true
  | [], u, h => by simp [cellsN] at h
  | s :: l, u, h => by
    simp only [cellsN, Ent.cells, List.mem_append, List.mem_cons, List.mem_nil_iff, or_false] at h
    rcases h with (rfl | rfl | rfl | rfl | rfl | rfl) | h
    iterate 6 rfl
    exact cellsN_one l u h

/-- A slice of sub-accounts, wherever it lies. -/
def SubsAt (w : World) (v : Value) (l : List SubA) : Prop := RowG w v l.length 2 (cellsU l)
/-- A slice of entries, wherever it lies. -/
def EntsAt (w : World) (v : Value) (l : List Ent) : Prop := RowG w v l.length 6 (cellsN l)
theorem SubsAt.below {w w' : World} {v : Value} {l : List SubA} (h : SubsAt w v l) (hb : Below w.heap.size w w') : SubsAt w' v l := RowG.below h hb
theorem EntsAt.below {w w' : World} {v : Value} {l : List Ent} (h : EntsAt w v l) (hb : Below w.heap.size w w') : EntsAt w' v l := RowG.below h hb

/-- A slice of sub-accounts, laid open: its parts, and what stands at each place. -/
theorem SubsAt.open {w : World} {v : Value} {l : List SubA} (h : SubsAt w v l) : (l = [] ∧ ∃ ao cap, v = .slice ao 0 cap) ∨ (0 < l.length ∧ ∃ b o cap, v = .slice (some ⟨b, o, none⟩) l.length cap ∧ l.length ≤ cap ∧ b < w.heap.size ∧ ∀ i, i < l.length → w.cell? ⟨b, o + i * 2, none⟩ = some (.int .i64 (subAt l i).id) ∧ w.cell? ⟨b, o + i * 2 + 1, none⟩ = some (.int .i64 (subAt l i).bal)) := by
  obtain ⟨_, ao, cap, rfl, hcap, hc⟩ := h
  by_cases hz : l.length = 0
  · obtain rfl := List.length_eq_zero_iff.1 hz
    exact Or.inl ⟨rfl, ao, cap, rfl⟩
  · rcases hc with hc | ⟨b, o, rfl, hb, hc⟩
    · exact absurd hc hz
    · refine Or.inr ⟨by omega, b, o, cap, rfl, hcap, hb, fun i hi => ?_⟩
      obtain ⟨g1, g2⟩ := cellsU_get l i hi
      exact ⟨(hc (i * 2) (by omega)).trans g1, (hc (i * 2 + 1) (by omega)).trans g2⟩
theorem EntsAt.open {w : World} {v : Value} {l : List Ent} (h : EntsAt w v l) : (l = [] ∧ ∃ ao cap, v = .slice ao 0 cap) ∨ (0 < l.length ∧ ∃ b o cap, v = .slice (some ⟨b, o, none⟩) l.length cap ∧ l.length ≤ cap ∧ b < w.heap.size ∧ ∀ i, i < l.length → ∀ j, j < 6 → w.cell? ⟨b, o + i * 6 + j, none⟩ = (entAt l i).cells[j]?) := by
  obtain ⟨_, ao, cap, rfl, hcap, hc⟩ := h
  by_cases hz : l.length = 0
  · obtain rfl := List.length_eq_zero_iff.1 hz
    exact Or.inl ⟨rfl, ao, cap, rfl⟩
  · rcases hc with hc | ⟨b, o, rfl, hb, hc⟩
    · exact absurd hc hz
    · refine Or.inr ⟨by omega, b, o, cap, rfl, hcap, hb, fun i hi j hj => ?_⟩
      rw [Nat.add_assoc, hc (i * 6 + j) (by omega)]
      exact cellsN_get l i j hi hj

theorem SubsAt.news {w : World} {b o n cap : Nat} {l : List SubA} (h : SubsAt w (.slice (some ⟨b, o, none⟩) n cap) l) (hn : 0 < l.length) (W : World) (hW : Below w.heap.size w W) : ∀ (j : Nat) u, (cellsU l)[j]? = some u → W.cell? ((⟨b, o, none⟩ : Addr).add j) = some u := by
  obtain ⟨_, ao, c, he, _, hc⟩ := h
  injection he with h1 h2 h3
  subst h1
  intro j u hj
  have hlt : j < l.length * 2 := by
    have := (List.getElem?_eq_some_iff.1 hj).1
    rwa [cellsU_len] at this
  rcases hc with hc | ⟨b', o', he', hb, hc⟩
  · omega
  · injection he' with he'
    injection he' with h4 h5 _
    subst h4 h5
    have he : (⟨b, o, none⟩ : Addr).add j = ⟨b, o + j, none⟩ := by unfold Addr.add; split <;> simp_all
    rw [he, hW.cell (p := ⟨b, o + j, none⟩) hb, hc j hlt, hj]

/-- An account by value. -/
def AccAt (w : World) (v : Value) (a : Acc) : Prop := ∃ su en, v = .agg #[.int .i64 a.credit, su, en] ∧ SubsAt w su a.subs ∧ EntsAt w en a.ents
theorem AccAt.below {w w' : World} {v : Value} {a : Acc} (h : AccAt w v a) (hb : Below w.heap.size w w') : AccAt w' v a := by
  obtain ⟨su, en, h1, h2, h3⟩ := h
  exact ⟨su, en, h1, h2.below hb, h3.below hb⟩

end Go.Proofs.Ytoelidndnajedaa
