/- Insertion on lists of flows. -/
import Derived.Test.YtebgfbcojhmdlaaDoorTaO
import Derived.Laws.IdiomCopy
set_option linter.unusedSimpArgs false
set_option linter.unusedVariables false
namespace Go.Proofs.YtebgfbcojhmdlaaDoor
open Go.RowKit Go.Lib Go.Proofs


/-- The order of flows. -/
def flowLe (a b : Flw) : Prop := a.day ≤ b.day
theorem flowLe_of {a b : Flw} (h : ¬ flowCmp b a < 0) : flowLe a b := by
  unfold flowCmp cmpI at h
  unfold flowLe
  repeat' split at h
  all_goals omega
theorem flowLe_lt {a b : Flw} (h : flowCmp a b < 0) : flowLe a b := by
  unfold flowCmp cmpI at h
  unfold flowLe
  repeat' split at h
  all_goals omega
theorem flowLe_trans {a b c : Flw} (h : flowLe a b) (k : flowLe b c) : flowLe a c := by unfold flowLe at *; omega

theorem sorted_ins {A B : List Flw} {x : Flw} (h : (A ++ B).Pairwise flowLe) (hB : ∀ b ∈ B, flowLe x b) (hA : ∀ a ∈ A, flowLe a x) : (A ++ x :: B).Pairwise flowLe := by
  rw [List.pairwise_append] at h ⊢
  refine ⟨h.1, List.pairwise_cons.2 ⟨hB, h.2.1⟩, fun a ha z hz => ?_⟩
  rcases List.mem_cons.1 hz with rfl | hz
  · exact hA a ha
  · exact h.2.2 a ha z hz
theorem last_le {A B : List Flw} {x y : Flw} (h : ((A ++ [y]) ++ B).Pairwise flowLe) (hx : flowLe y x) : ∀ a ∈ A ++ [y], flowLe a x := by
  intro a ha
  rcases List.mem_append.1 ha with ha | ha
  · have h1 := (List.pairwise_append.1 h).1
    exact flowLe_trans ((List.pairwise_append.1 h1).2.2 a ha y (by simp)) hx
  · rw [List.mem_singleton] at ha; rw [ha]; exact hx

theorem set_in (P L : List Value) (p i : Nat) (hp : p = P.length) (u : Value) : (P ++ L).set (p + i) u = P ++ L.set i u := by
  subst hp
  rw [List.set_append_right _ _ (by omega), Nat.add_sub_cancel_left]

/-- The cells of two neighbours in a row. -/
theorem mid_cells (A R : List Flw) (y x : Flw) (q : Nat) (hq : q < 4) : (cellsL flowC (A ++ y :: x :: R))[A.length * 4 + q]? = (flowC y)[q]? ∧ (cellsL flowC (A ++ y :: x :: R))[(A.length + 1) * 4 + q]? = (flowC x)[q]? := by
  refine ⟨?_, ?_⟩
  · rw [cellsL_get flowF _ A.length q (by simp) hq]; simp
  · rw [cellsL_get flowF _ (A.length + 1) q (by simp) hq, List.getElem_append_right (by omega)]; simp

/-- Two neighbours exchanged. -/
def swapW (W : World) (g : Nat) (j : Nat) (y x : Flw) : World :=
  (((((((W.setCell ⟨g, (j + 1) * 4, none⟩ (.int .i64 y.day)).setCell ⟨g, (j + 1) * 4 + 1, none⟩ (.int .i64 y.amt)).setCell ⟨g, (j + 1) * 4 + 2, none⟩ (.int .i64 y.kind)).setCell ⟨g, (j + 1) * 4 + 3, none⟩ (.int .i64 y.ref)).setCell ⟨g, j * 4, none⟩ (.int .i64 x.day)).setCell ⟨g, j * 4 + 1, none⟩ (.int .i64 x.amt)).setCell ⟨g, j * 4 + 2, none⟩ (.int .i64 x.kind)).setCell ⟨g, j * 4 + 3, none⟩ (.int .i64 x.ref)

theorem swap_sets (A R : List Flw) (y x : Flw) (j : Nat) (hj : j = A.length) :
    ((((((((cellsL flowC (A ++ y :: x :: R)).set ((j + 1) * 4) (.int .i64 y.day)).set ((j + 1) * 4 + 1) (.int .i64 y.amt)).set ((j + 1) * 4 + 2) (.int .i64 y.kind)).set ((j + 1) * 4 + 3) (.int .i64 y.ref)).set (j * 4) (.int .i64 x.day)).set (j * 4 + 1) (.int .i64 x.amt)).set (j * 4 + 2) (.int .i64 x.kind)).set (j * 4 + 3) (.int .i64 x.ref) = cellsL flowC (A ++ x :: y :: R) := by
  have hp : j * 4 = (cellsL flowC A).length := by rw [cellsL_len flowF, hj]
  rw [cellsL_app, cellsL_app, show (j + 1) * 4 = j * 4 + 4 by omega]
  have h0 : ∀ L : List Value, ∀ u, (cellsL flowC A ++ L).set (j * 4) u = cellsL flowC A ++ L.set 0 u := fun L u => set_in _ L (j * 4) 0 hp u
  rw [set_in _ _ _ 4 hp, show j * 4 + 4 + 1 = j * 4 + 5 by omega, set_in _ _ _ 5 hp, show j * 4 + 4 + 2 = j * 4 + 6 by omega, set_in _ _ _ 6 hp, show j * 4 + 4 + 3 = j * 4 + 7 by omega, set_in _ _ _ 7 hp, h0, set_in _ _ _ 1 hp, set_in _ _ _ 2 hp, set_in _ _ _ 3 hp]
  rfl

theorem swap_owns {W : World} {base g n cap j : Nat} {e : TypeId} {A R : List Flw} {y x : Flw} (hj : j = A.length) (h : W.ownsRow base e 4 (.slice (some ⟨g, 0, none⟩) n cap) n (cellsL flowC (A ++ y :: x :: R))) :
    (swapW W g j y x).ownsRow base e 4 (.slice (some ⟨g, 0, none⟩) n cap) n (cellsL flowC (A ++ x :: y :: R)) := by
  have h1 := (((((((h.stored ((j + 1) * 4) (.int .i64 y.day)).1.stored ((j + 1) * 4 + 1) (.int .i64 y.amt)).1.stored ((j + 1) * 4 + 2) (.int .i64 y.kind)).1.stored ((j + 1) * 4 + 3) (.int .i64 y.ref)).1.stored (j * 4) (.int .i64 x.day)).1.stored (j * 4 + 1) (.int .i64 x.amt)).1.stored (j * 4 + 2) (.int .i64 x.kind)).1.stored (j * 4 + 3) (.int .i64 x.ref)
  rw [swap_sets A R y x j hj] at h1
  exact h1.1
theorem own_stores {P : Program} {W : World} {base g n cap size : Nat} {e : TypeId} {xs : List Value} (h : W.ownsRow base e size (.slice (some ⟨g, 0, none⟩) n cap) n xs) (o : Nat) (vs : List Value) (hs : o + vs.length ≤ n * size) (h1 : ∀ v ∈ vs, v.oneCell' = true) :
    Sem.run P (storeCells ⟨g, o, none⟩ vs 0) W = .ok () (W.setCells g o vs) :=
  run_storeCells_cells g o vs 0 W (fun j hj => by
    have hl := h.1
    show (W.cell? ⟨g, o + j, none⟩).isSome = true
    rw [h.cellAt (o + j) (by omega), List.getElem?_eq_getElem (by omega)]; rfl) (fun j hj => h.frozenAt _) h1
theorem setCells_owns {base g n cap size : Nat} {e : TypeId} : ∀ (vs : List Value) (W : World) (o : Nat) (xs : List Value), W.ownsRow base e size (.slice (some ⟨g, 0, none⟩) n cap) n xs → ∃ ys, (W.setCells g o vs).ownsRow base e size (.slice (some ⟨g, 0, none⟩) n cap) n ys
  | [], W, o, xs, h => ⟨xs, h⟩
  | v :: vs, W, o, xs, h => setCells_owns vs (W.setCell ⟨g, o, none⟩ v) (o + 1) _ (h.stored o v).1
theorem load4 {P : Program} {W : World} {g o : Nat} {c : List Value} {u0 u1 u2 u3 : Value} (hc : c = [u0, u1, u2, u3]) (h0 : W.cell? ⟨g, o, none⟩ = some u0) (h1 : W.cell? ⟨g, o + 1, none⟩ = some u1) (h2 : W.cell? ⟨g, o + 2, none⟩ = some u2) (h3 : W.cell? ⟨g, o + 3, none⟩ = some u3) :
    Sem.run P (loadCellsFrom ⟨g, o, none⟩ 0 4 #[]) W = .ok c.toArray W := by
  subst hc
  have := run_loadCells_list (P := P) (w := W) ⟨g, o, none⟩ [u0, u1, u2, u3] (fun j u hj => by
    rw [Addr.add_lit]
    match j with
    | 0 => simp at hj; subst hj; exact h0
    | 1 => simp at hj; subst hj; exact h1
    | 2 => simp at hj; subst hj; exact h2
    | 3 => simp at hj; subst hj; exact h3
    | j + 4 => simp at hj)
  simpa [loadCells] using this
theorem own_at {W : World} {base g n cap size : Nat} {e : TypeId} {xs : List Value} (h : W.ownsRow base e size (.slice (some ⟨g, 0, none⟩) n cap) n xs) (o : Nat) (ho : o < n * size) : ∃ u, W.cell? ⟨g, o, none⟩ = some u ∧ W.frozen? ⟨g, o, none⟩ = false := by
  have hl := h.1
  exact ⟨xs[o]'(by omega), by rw [h.cellAt o ho, List.getElem?_eq_getElem (by omega)], h.frozenAt o⟩
theorem four_ints (a b c d : Int) : ∀ v ∈ [Value.int .i64 a, .int .i64 b, .int .i64 c, .int .i64 d], v.oneCell' = true := by
  intro v hv; simp at hv; rcases hv with rfl | rfl | rfl | rfl <;> rfl
theorem swap_below {base : Nat} {w W : World} {g : Nat} (j : Nat) (y x : Flw) (hb : base ≤ g) (h : Below base w W) : Below base w (swapW W g j y x) := by
  unfold swapW
  exact (((((((h.setCell hb _).setCell hb _).setCell hb _).setCell hb _).setCell hb _).setCell hb _).setCell hb _).setCell hb _

end Go.Proofs.YtebgfbcojhmdlaaDoor
