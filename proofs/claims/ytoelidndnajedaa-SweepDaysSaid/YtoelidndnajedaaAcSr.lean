/- The source-driven step of AccountSums: what each operation of the region that draws an entry leaves. -/
import Derived.Test.YtoelidndnajedaaAcNu
import Derived.Test.YtoelidndnajedaaRegInv
set_option linter.unusedSimpArgs false
set_option linter.unusedVariables false
namespace Go.Proofs.Ytoelidndnajedaa
open Go.RowKit Go.Lib Go.Proofs

/-- A slice of four numbers in a block of its own. -/
def SBox (tb : Nat) (v : Value) (cs : Array Value) (W : World) : Prop := ∃ b : Nat, v = .slice (some ⟨b, 0, none⟩) 4 4 ∧ tb < b ∧ W.heap[b]? = some (.cells cs 3 (0, 0))

/-- What each operation leaves. -/
def R8 (tb base : Nat) (A : Value) (m : Nat) (d : Int) (j : Nat) (f : Nat → Value) (W : World) : Prop :=
  match j with
  | 0 => f 34 = A
  | 1 => f 35 = .int .i64 d
  | 2 => f 36 = .pointer (some ⟨tb, 0, none⟩)
  | 3 => SBox tb (f 37) #[.int .i64 0, .int .i64 1, .int .i64 2, .int .i64 3] W
  | 4 => ∃ x : Int, f 38 = .int .i64 x
  | 5 => f 39 = .pointer (some ⟨tb, 0, none⟩)
  | 6 => SBox tb (f 40) #[.int .i64 0, .int .i64 1, .int .i64 2, .int .i64 7] W
  | 7 => ∃ x : Int, f 41 = .int .i64 x
  | 8 => f 42 = .pointer (some ⟨tb, 0, none⟩)
  | 9 => SBox tb (f 43) #[.int .i64 1, .int .i64 30, .int .i64 90, .int .i64 500] W
  | 10 => ∃ x : Int, f 44 = .int .i64 x ∧ 1 ≤ x ∧ x ≤ 500
  | 11 => ∃ x y z : Int, f 45 = .agg #[.int .i64 ((m : Int) + 1), .int .i64 d, .int .i64 x, .int .i64 y, .int .i64 z, .int .i64 0] ∧ 1 ≤ z ∧ z ≤ 500
  | 12 => ∃ b : Nat, f 8 = .pointer (some ⟨b, 0, none⟩) ∧ base ≤ b ∧ ∃ c0 c1 c2 c3 c4 c5 : Int, W.heap[b]? = some (.cells #[.int .i64 c0, .int .i64 c1, .int .i64 c2, .int .i64 c3, .int .i64 c4, .int .i64 c5] 38 (0, 0))
  | 13 => ∃ (b : Nat) (x y z : Int), f 8 = .pointer (some ⟨b, 0, none⟩) ∧ base ≤ b ∧ (1 ≤ z ∧ z ≤ 500) ∧ W.heap[b]? = some (.cells #[.int .i64 ((m : Int) + 1), .int .i64 d, .int .i64 x, .int .i64 y, .int .i64 z, .int .i64 0] 38 (0, 0))
  | _ => True
def slot8 (j : Nat) : Nat := if j < 12 then 34 + j else if j = 12 then 8 else 999
def reads8 (j : Nat) : List Nat := if j < 12 then [34 + j] else if j < 14 then [8] else []

theorem SBox.keep {tb : Nat} {v : Value} {cs : Array Value} {W W' : World} (h : SBox tb v cs W) (hk : Keep tb W W') : SBox tb v cs W' := by
  obtain ⟨b, h1, h2, h3⟩ := h
  exact ⟨b, h1, h2, hk _ _ (by omega) h3⟩
theorem R8.keep {tb base : Nat} {A : Value} {m : Nat} {d : Int} {f : Nat → Value} {W W' : World} (hb : tb < base) (hk : Keep tb W W') : ∀ {j : Nat}, R8 tb base A m d j f W → R8 tb base A m d j f W'
  | 0, h => h | 1, h => h | 2, h => h | 3, h => SBox.keep h hk | 4, h => h | 5, h => h | 6, h => SBox.keep h hk | 7, h => h | 8, h => h | 9, h => SBox.keep h hk | 10, h => h | 11, h => h
  | 12, ⟨b, h1, h2, c0, c1, c2, c3, c4, c5, h3⟩ => ⟨b, h1, h2, c0, c1, c2, c3, c4, c5, hk _ _ (by omega) h3⟩
  | 13, ⟨b, x, y, z, h1, h2, h3, h4⟩ => ⟨b, x, y, z, h1, h2, h3, hk _ _ (by omega) h4⟩
  | j + 14, h => h
theorem R8.upd {tb base : Nat} {A : Value} {m : Nat} {d : Int} {f : Nat → Value} {W : World} {q : Nat} {v : Value} : ∀ {j : Nat}, ¬ q ∈ reads8 j → R8 tb base A m d j f W → R8 tb base A m d j (updF f q v) W
  | 0, hq, h => by
    have e : updF f q v 34 = f 34 := updF_other f v (fun e => hq (by rw [← e]; simp [reads8]))
    unfold R8 at h ⊢
    simp only [e]
    exact h
  | 1, hq, h => by
    have e : updF f q v 35 = f 35 := updF_other f v (fun e => hq (by rw [← e]; simp [reads8]))
    unfold R8 at h ⊢
    simp only [e]
    exact h
  | 2, hq, h => by
    have e : updF f q v 36 = f 36 := updF_other f v (fun e => hq (by rw [← e]; simp [reads8]))
    unfold R8 at h ⊢
    simp only [e]
    exact h
  | 3, hq, h => by
    have e : updF f q v 37 = f 37 := updF_other f v (fun e => hq (by rw [← e]; simp [reads8]))
    unfold R8 at h ⊢
    simp only [e]
    exact h
  | 4, hq, h => by
    have e : updF f q v 38 = f 38 := updF_other f v (fun e => hq (by rw [← e]; simp [reads8]))
    unfold R8 at h ⊢
    simp only [e]
    exact h
  | 5, hq, h => by
    have e : updF f q v 39 = f 39 := updF_other f v (fun e => hq (by rw [← e]; simp [reads8]))
    unfold R8 at h ⊢
    simp only [e]
    exact h
  | 6, hq, h => by
    have e : updF f q v 40 = f 40 := updF_other f v (fun e => hq (by rw [← e]; simp [reads8]))
    unfold R8 at h ⊢
    simp only [e]
    exact h
  | 7, hq, h => by
    have e : updF f q v 41 = f 41 := updF_other f v (fun e => hq (by rw [← e]; simp [reads8]))
    unfold R8 at h ⊢
    simp only [e]
    exact h
  | 8, hq, h => by
    have e : updF f q v 42 = f 42 := updF_other f v (fun e => hq (by rw [← e]; simp [reads8]))
    unfold R8 at h ⊢
    simp only [e]
    exact h
  | 9, hq, h => by
    have e : updF f q v 43 = f 43 := updF_other f v (fun e => hq (by rw [← e]; simp [reads8]))
    unfold R8 at h ⊢
    simp only [e]
    exact h
  | 10, hq, h => by
    have e : updF f q v 44 = f 44 := updF_other f v (fun e => hq (by rw [← e]; simp [reads8]))
    unfold R8 at h ⊢
    simp only [e]
    exact h
  | 11, hq, h => by
    have e : updF f q v 45 = f 45 := updF_other f v (fun e => hq (by rw [← e]; simp [reads8]))
    unfold R8 at h ⊢
    simp only [e]
    exact h
  | 12, hq, h => by
    have e : updF f q v 8 = f 8 := updF_other f v (fun e => hq (by rw [← e]; simp [reads8]))
    unfold R8 at h ⊢
    simp only [e]
    exact h
  | 13, hq, h => by
    have e : updF f q v 8 = f 8 := updF_other f v (fun e => hq (by rw [← e]; simp [reads8]))
    unfold R8 at h ⊢
    simp only [e]
    exact h
  | j + 14, _, h => h

theorem put6_keepB {W : World} {b bx : Nat} {o : Obj} (v0 v1 v2 v3 v4 v5 : Value) (h : W.heap[bx]? = some o) (hne : bx ≠ b) : (put6 W b v0 v1 v2 v3 v4 v5).heap[bx]? = some o :=
  ((put6_grown W b v0 v1 v2 v3 v4 v5).block bx (obj_lt h) (by simp [hne])).trans h
theorem SBox.put {tb b : Nat} {v : Value} {cs : Array Value} {W : World} {c0 c1 c2 c3 c4 c5 : Value} (h : SBox tb v cs W) (hcs : cs.size = 4) (hb : W.heap[b]? = some (.cells #[c0, c1, c2, c3, c4, c5] 38 (0, 0))) (v0 v1 v2 v3 v4 v5 : Value) : SBox tb v cs (put6 W b v0 v1 v2 v3 v4 v5) := by
  obtain ⟨q, h1, h2, h3⟩ := h
  refine ⟨q, h1, h2, put6_keepB v0 v1 v2 v3 v4 v5 h3 (fun e => ?_)⟩
  subst e
  rw [h3] at hb
  injection hb with hb
  injection hb with hb
  rw [hb] at hcs
  cases hcs

theorem R8.put {tb base : Nat} {A : Value} {m : Nat} {d : Int} {f : Nat → Value} {W : World} {b : Nat} {c0 c1 c2 c3 c4 c5 : Value} (h8 : f 8 = .pointer (some ⟨b, 0, none⟩)) (hb : W.heap[b]? = some (.cells #[c0, c1, c2, c3, c4, c5] 38 (0, 0))) (y0 y1 y2 y3 y4 y5 : Int) (j : Nat) (hj : j ≠ 13) (h : R8 tb base A m d j f W) : R8 tb base A m d j f (put6 W b (.int .i64 y0) (.int .i64 y1) (.int .i64 y2) (.int .i64 y3) (.int .i64 y4) (.int .i64 y5)) := by
  match j, hj, h with
  | 0, _, h => unfold R8 at h ⊢; exact h
  | 1, _, h => unfold R8 at h ⊢; exact h
  | 2, _, h => unfold R8 at h ⊢; exact h
  | 3, _, h => exact SBox.put h rfl hb _ _ _ _ _ _
  | 4, _, h => unfold R8 at h ⊢; exact h
  | 5, _, h => unfold R8 at h ⊢; exact h
  | 6, _, h => exact SBox.put h rfl hb _ _ _ _ _ _
  | 7, _, h => unfold R8 at h ⊢; exact h
  | 8, _, h => unfold R8 at h ⊢; exact h
  | 9, _, h => exact SBox.put h rfl hb _ _ _ _ _ _
  | 10, _, h => unfold R8 at h ⊢; exact h
  | 11, _, h => unfold R8 at h ⊢; exact h
  | 12, _, ⟨q, h1, h2, _⟩ =>
    rw [h8] at h1
    injection h1 with h1
    injection h1 with h1
    injection h1 with h1 _ _
    subst h1
    exact ⟨b, h8, h2, y0, y1, y2, y3, y4, y5, put6_at hb rfl _ _ _ _ _ _⟩
  | j + 14, _, h => trivial

/-- A world beside a source: an account in a box. -/
structure AX (w : World) (tb bA : Nat) (a : Acc) (su en : Value) (W : World) : Prop where
  si : SI w tb W
  box : W.heap[bA]? = some (.cells #[.int .i64 a.credit, su, en] 28 (0, 0))
  subs : SubsAt W su a.subs
  ents : EntsAt W en a.ents
  far : tb < bA
  out : w.heap.size ≤ bA
theorem AX.below {w : World} {tb bA : Nat} {a : Acc} {su en : Value} {A B : World} (h : AX w tb bA a su en A) (hb : Below A.heap.size A B) : AX w tb bA a su en B :=
  ⟨h.si.below hb, obj_below h.box hb, h.subs.below hb, h.ents.below hb, h.far, h.out⟩
theorem AX.turn {w : World} {tb bA : Nat} {a : Acc} {su en : Value} {A B : World} (h : AX w tb bA a su en A) (hi : SI w tb B) (hg : A.grownBy B (some tb)) : AX w tb bA a su en B :=
  ⟨hi, obj_turn h.box hg (by have := h.far; omega), h.subs.turn h.si.src hg, h.ents.turn h.si.src hg, h.far, h.out⟩
theorem addM_net {cr : Int} {l q : List SubA} {last e : Ent} (h : addM cr l last e = .ok q) (hn : NoZero l) (h1 : e.frm ≠ 0) (h2 : e.to ≠ 0) : sumM q = sumM l := by
  have := addM_sum h hn
  rw [this]
  unfold inE outE
  rw [if_neg h1, if_neg h2]
  omega
theorem open_hund {c : Int} (h : c ∈ ([0, 100] : List Int)) : ∃ b, openM [1, 2, 3, 7] c = .ok b ∧ Made b [1, 2, 3, 7] 0 500 0 ∧ (b.credit = 0 ∨ b.credit = 100) := by
  have hc : c = 0 ∨ c = 100 := by simp at h; omega
  have key : ∃ b, openM [1, 2, 3, 7] c = .ok b := by rcases hc with rfl | rfl <;> exact ⟨_, rfl⟩
  obtain ⟨b, hb⟩ := key
  obtain ⟨h1, h2, h3, h4⟩ := openM_right hb
  refine ⟨b, hb, ⟨h1, h2, by rw [h3]; simp, by rw [h3]; simp, by rw [h3]; exact Int.le_refl _⟩, ?_⟩
  rw [h4]
  exact hc

end Go.Proofs.Ytoelidndnajedaa
