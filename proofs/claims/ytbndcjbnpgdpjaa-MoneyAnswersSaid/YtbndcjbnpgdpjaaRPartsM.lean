/- Plain mathematics of the reference's parts: taking the greatest rest again and again, the first of equal ones, takes the places in their order; for rests that are not negative. -/
import Derived.Test.YtbndcjbnpgdpjaaPartsN
namespace Go.Proofs.Ytbndcjbnpgdpjaa

/-- The rests on the way: -1 at the places of s. -/
def marked (r : List Int) (s : List Nat) : List Int := (List.range r.length).map fun i => if i ∈ s then -1 else r.getD i 0

theorem marked_nil (r : List Int) : marked r [] = r := by
  unfold marked
  simp only [List.not_mem_nil, if_false]
  exact list_getD_range r
theorem marked_length (r : List Int) (s : List Nat) : (marked r s).length = r.length := by simp [marked]
theorem marked_get? (r : List Int) (s : List Nat) (i : Nat) (hi : i < r.length) : (marked r s)[i]? = some (if i ∈ s then -1 else r.getD i 0) := by
  simp only [marked, List.getElem?_map, List.getElem?_range hi, Option.map_some]
theorem marked_get (r : List Int) (s : List Nat) (i : Nat) (hi : i < r.length) : (marked r s).getD i 0 = if i ∈ s then -1 else r.getD i 0 := by
  rw [List.getD, marked_get? r s i hi]
  rfl
theorem marked_set (r : List Int) (s : List Nat) (i : Nat) (hi : i < r.length) : (marked r s).set i (-1) = marked r (s ++ [i]) := by
  apply List.ext_getElem?
  intro j
  by_cases hj : j < r.length
  · rw [marked_get? r _ j hj, List.getElem?_set]
    by_cases e : i = j
    · subst e
      rw [if_pos rfl, if_pos (by rw [marked_length]; exact hi)]
      simp
    · rw [if_neg e, marked_get? r _ j hj]
      have : j ≠ i := Ne.symm e
      simp [this]
  · rw [List.getElem?_eq_none (by simp [marked_length]; omega), List.getElem?_eq_none (by rw [marked_length]; omega)]

/-- b is the place of the greatest of the first i numbers, the first of equal ones. -/
def Best (l : List Int) (i b : Nat) : Prop := (b < i ∨ b = 0) ∧ ∀ j, j < i → l.getD j 0 ≤ l.getD b 0 ∧ (j < b → l.getD j 0 < l.getD b 0)

theorem best_zero (l : List Int) : Best l 0 0 := ⟨Or.inr rfl, fun j h => by omega⟩
theorem best_yes {l : List Int} {i b : Nat} (h : Best l i b) (hlt : l.getD b 0 < l.getD i 0) : Best l (i + 1) i := by
  refine ⟨Or.inl (by omega), fun j hj => ?_⟩
  by_cases e : j = i
  · subst e; exact ⟨Int.le_refl _, fun h => by omega⟩
  · have := h.2 j (by omega); omega
theorem best_no {l : List Int} {i b : Nat} (h : Best l i b) (hlt : ¬ l.getD b 0 < l.getD i 0) : Best l (i + 1) b := by
  obtain ⟨h1, h2⟩ := h
  refine ⟨by omega, fun j hj => ?_⟩
  by_cases e : j = i
  · subst e; exact ⟨by omega, fun h => by omega⟩
  · exact h2 j (by omega)

/-- The greatest rest that is left is the next one of the order. -/
theorem best_is {rs : List Int} {o : List Nat} (ho : IsOrder rs o) (h0 : ∀ x ∈ rs, 0 ≤ x) {t b : Nat} (ht : t < o.length) (hb : b < rs.length) (h : Best (marked rs (o.take t)) rs.length b) : b = o[t] := by
  have hot : o[t] < rs.length := ho.lt t ht
  have hnn : ∀ i, i < rs.length → 0 ≤ rs.getD i 0 := fun i hi => by
    have : rs.getD i 0 = rs[i] := by simp [List.getD, List.getElem?_eq_getElem hi]
    rw [this]; exact h0 _ (List.getElem_mem hi)
  have hnt : o[t] ∉ o.take t := by
    rw [ho.mem_take _ _ hot, ho.rank t ht]; omega
  have h1 := h.2 o[t] hot
  rw [marked_get _ _ _ hot, if_neg hnt, marked_get _ _ _ hb] at h1
  have hp := hnn _ hot
  by_cases hbt : b ∈ o.take t
  · rw [if_pos hbt] at h1; omega
  · rw [if_neg hbt] at h1
    obtain ⟨k, hk, hkb⟩ := List.mem_iff_getElem.1 (ho.perm.mem_iff.2 (List.mem_range.2 hb))
    rw [ho.mem_take b t hb, ← hkb, ho.rank k hk] at hbt
    by_cases e : k = t
    · subst e; exact hkb.symm
    · have hs := (List.pairwise_iff_getElem.1 ho.sorted) t k ht hk (by omega)
      rw [bef_iff, hkb] at hs
      omega

end Go.Proofs.Ytbndcjbnpgdpjaa
