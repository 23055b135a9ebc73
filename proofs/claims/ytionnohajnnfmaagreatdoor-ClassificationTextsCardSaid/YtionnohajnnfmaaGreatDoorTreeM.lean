/- Plain mathematics of classifications: the order of codes is total, a code more keeps them in order and closed under parents; of no function of the program; no condition. -/
import Derived.Test.YtionnohajnnfmaaGreatDoorWith
namespace Go.Proofs.YtionnohajnnfmaaGreatDoor
open Go.RowKit Go.Lib Go.Proofs

theorem cmpL_anti : ∀ (a b : List Int), cmpL a b = - cmpL b a
  | [], [] => rfl
  | [], _ :: _ => rfl
  | _ :: _, [] => rfl
  | x :: xs, y :: ys => by
    have ih := cmpL_anti xs ys
    unfold cmpL
    by_cases h1 : x < y
    · rw [if_pos h1, if_neg (by omega), if_pos h1]
    · by_cases h2 : y < x
      · rw [if_neg h1, if_pos h2, if_pos h2]; rfl
      · rw [if_neg h1, if_neg h2, if_neg h2, if_neg h1]; exact ih

theorem cmpL_zero : ∀ {a b : List Int}, cmpL a b = 0 ↔ a = b
  | [], [] => by simp [cmpL]
  | [], _ :: _ => by simp [cmpL]
  | _ :: _, [] => by simp [cmpL]
  | x :: xs, y :: ys => by
    have ih := cmpL_zero (a := xs) (b := ys)
    unfold cmpL
    by_cases h1 : x < y
    · rw [if_pos h1]; constructor
      · intro h; cases h
      · intro h; injection h with h _; omega
    · by_cases h2 : y < x
      · rw [if_neg h1, if_pos h2]; constructor
        · intro h; cases h
        · intro h; injection h with h _; omega
      · rw [if_neg h1, if_neg h2, ih]
        have : x = y := by omega
        subst this
        simp

theorem cmpL_three : ∀ (a b : List Int), cmpL a b = -1 ∨ cmpL a b = 0 ∨ cmpL a b = 1
  | [], [] => by simp [cmpL]
  | [], _ :: _ => by simp [cmpL]
  | _ :: _, [] => by simp [cmpL]
  | x :: xs, y :: ys => by
    have ih := cmpL_three xs ys
    unfold cmpL
    split
    · exact Or.inl rfl
    · split
      · exact Or.inr (Or.inr rfl)
      · exact ih

theorem cmpL_trans : ∀ {a b c : List Int}, cmpL a b < 0 → cmpL b c < 0 → cmpL a c < 0
  | _, [], [], _, h => absurd h (by decide)
  | _, _ :: _, [], _, h => absurd h (by simp [cmpL])
  | [], _, _ :: _, _, _ => by simp [cmpL]
  | _ :: _, [], _ :: _, h, _ => absurd h (by simp [cmpL])
  | x :: xs, y :: ys, z :: zs, h1, h2 => by
    have ih := cmpL_trans (a := xs) (b := ys) (c := zs)
    unfold cmpL at h1 h2 ⊢
    by_cases a1 : x < y
    · by_cases b1 : y < z
      · rw [if_pos (by omega)]; decide
      · by_cases b2 : z < y
        · rw [if_neg b1, if_pos b2] at h2; exact absurd h2 (by decide)
        · rw [if_pos (by omega)]; decide
    · by_cases a2 : y < x
      · rw [if_neg a1, if_pos a2] at h1; exact absurd h1 (by decide)
      · rw [if_neg a1, if_neg a2] at h1
        by_cases b1 : y < z
        · rw [if_pos (by omega)]; decide
        · by_cases b2 : z < y
          · rw [if_neg b1, if_pos b2] at h2; exact absurd h2 (by decide)
          · rw [if_neg b1, if_neg b2] at h2
            rw [if_neg (by omega), if_neg (by omega)]
            exact ih h1 h2

theorem cmpN_anti (a b : List Nat) : cmpN a b = - cmpN b a := cmpL_anti _ _
theorem cmpN_zero {a b : List Nat} : cmpN a b = 0 ↔ a = b := by
  unfold cmpN
  rw [cmpL_zero]
  exact ⟨asInts_inj, fun h => by rw [h]⟩
theorem cmpN_trans {a b c : List Nat} (h : cmpN a b < 0) (k : cmpN b c < 0) : cmpN a c < 0 := cmpL_trans h k
theorem cmpN_three (a b : List Nat) : cmpN a b = -1 ∨ cmpN a b = 0 ∨ cmpN a b = 1 := cmpL_three _ _
theorem cmpN_total {a b : List Nat} (h : a ≠ b) : cmpN a b < 0 ∨ cmpN b a < 0 := by
  rcases cmpN_three a b with h1 | h1 | h1
  · left; omega
  · exact absurd (cmpN_zero.1 h1) h
  · right; rw [cmpN_anti]; omega

/-- A classification's codes: in order, each of them a code, closed under parents. -/
structure TreeOk (l : List (List Nat)) : Prop where
  sorted : l.Pairwise fun a b => cmpN a b < 0
  good : ∀ x ∈ l, GoodN x
  up : ∀ x ∈ l, 2 ≤ x.length → x.dropLast ∈ l

theorem mem_insN {c x : List Nat} : ∀ {l : List (List Nat)}, x ∈ insN c l ↔ x = c ∨ x ∈ l
  | [] => by simp [insN]
  | y :: l => by
    unfold insN
    split
    · simp
    · have ih := mem_insN (c := c) (x := x) (l := l)
      rw [List.mem_cons, ih, List.mem_cons]
      constructor
      · rintro (h | h | h)
        · exact Or.inr (Or.inl h)
        · exact Or.inl h
        · exact Or.inr (Or.inr h)
      · rintro (h | h | h)
        · exact Or.inr (Or.inl h)
        · exact Or.inl h
        · exact Or.inr (Or.inr h)

theorem any_eq {c : List Nat} {l : List (List Nat)} : l.any (fun x => decide (cmpN c x = 0)) = true ↔ c ∈ l := by
  rw [List.any_eq_true]
  constructor
  · rintro ⟨x, hx, h⟩
    rw [cmpN_zero.1 (of_decide_eq_true h)]; exact hx
  · intro h
    exact ⟨c, h, decide_eq_true (cmpN_zero.2 rfl)⟩

theorem mem_withN {c x : List Nat} {l : List (List Nat)} : x ∈ withN c l ↔ x = c ∨ x ∈ l := by
  unfold withN
  by_cases h : l.any (fun x => decide (cmpN c x = 0)) = true
  · rw [if_pos h]
    have hc := any_eq.1 h
    exact ⟨Or.inr, fun h => h.elim (fun h => h ▸ hc) id⟩
  · rw [if_neg h]; exact mem_insN

theorem insN_sorted {c : List Nat} : ∀ {l : List (List Nat)}, l.Pairwise (fun a b => cmpN a b < 0) → c ∉ l → (insN c l).Pairwise fun a b => cmpN a b < 0
  | [], _, _ => by simp [insN]
  | y :: l, h, hn => by
    simp only [List.mem_cons, not_or] at hn
    obtain ⟨h1, h2⟩ := List.pairwise_cons.1 h
    unfold insN
    by_cases hc : cmpN c y < 0
    · rw [if_pos hc]
      refine List.pairwise_cons.2 ⟨fun x hx => ?_, h⟩
      rcases List.mem_cons.1 hx with rfl | hx
      · exact hc
      · exact cmpN_trans hc (h1 x hx)
    · rw [if_neg hc]
      refine List.pairwise_cons.2 ⟨fun x hx => ?_, insN_sorted h2 hn.2⟩
      rcases mem_insN.1 hx with rfl | hx
      · exact (cmpN_total hn.1).resolve_left hc
      · exact h1 x hx

theorem withN_len (c : List Nat) (l : List (List Nat)) : (withN c l).length ≤ l.length + 1 ∧ l.length ≤ (withN c l).length := by
  have : (insN c l).length = l.length + 1 := by
    induction l with
    | nil => rfl
    | cons x l ih => unfold insN; split <;> simp [ih]
  unfold withN
  split <;> omega

theorem TreeOk.put {c : List Nat} {l : List (List Nat)} (h : TreeOk l) (hc : GoodN c) (hp : 2 ≤ c.length → c.dropLast ∈ l) : TreeOk (withN c l) := by
  refine ⟨?_, fun x hx => ?_, fun x hx h2 => ?_⟩
  · unfold withN
    by_cases ha : l.any (fun x => decide (cmpN c x = 0)) = true
    · rw [if_pos ha]; exact h.sorted
    · rw [if_neg ha]
      exact insN_sorted h.sorted fun hm => ha (any_eq.2 hm)
  · rcases mem_withN.1 hx with rfl | hx
    · exact hc
    · exact h.good x hx
  · rcases mem_withN.1 hx with rfl | hx
    · exact mem_withN.2 (Or.inr (hp h2))
    · exact mem_withN.2 (Or.inr (h.up x hx h2))

theorem GoodN.one {n : Nat} (h : 1 ≤ n ∧ n ≤ 99) : GoodN [n] := ⟨by simp, by simp, by simpa using h⟩
theorem GoodN.snoc {ns : List Nat} {n : Nat} (h : GoodN ns) (hl : ns.length ≤ 3) (hn : 1 ≤ n ∧ n ≤ 99) : GoodN (ns ++ [n]) :=
  ⟨by simp, by simp; omega, fun m hm => by
    rcases List.mem_append.1 hm with hm | hm
    · exact h.2.2 m hm
    · rw [List.mem_singleton.1 hm]; exact hn⟩

theorem tree0 : TreeOk [[1], [2]] := by
  refine ⟨by decide, fun x hx => ?_, fun x hx h => ?_⟩
  · simp only [List.mem_cons, List.mem_nil_iff, or_false] at hx
    rcases hx with rfl | rfl <;> exact GoodN.one (by omega)
  · simp only [List.mem_cons, List.mem_nil_iff, or_false] at hx
    rcases hx with rfl | rfl <;> simp at h

end Go.Proofs.YtionnohajnnfmaaGreatDoor
