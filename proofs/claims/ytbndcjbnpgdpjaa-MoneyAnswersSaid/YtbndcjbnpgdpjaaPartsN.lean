/- Plain mathematics of the parts of an amount, more: they add up to it, a rest of 0 gets nothing more, a greater weight gets no less; for an amount and weights that are not negative and a positive sum. -/
import Derived.Test.YtbndcjbnpgdpjaaPartsM
import Derived.Test.YtbndcjbnpgdpjaaSortB
namespace Go.Proofs.Ytbndcjbnpgdpjaa

theorem sumI_perm {a b : List Int} (h : a.Perm b) : sumI a = sumI b := by
  induction h with
  | nil => rfl
  | cons x _ ih => simp only [sumI, ih]
  | swap x y l => simp only [sumI]; omega
  | trans _ _ h1 h2 => exact h1.trans h2

theorem sumI_map_add (l : List Nat) (f g : Nat → Int) : sumI (l.map fun i => f i + g i) = sumI (l.map f) + sumI (l.map g) := by
  induction l with
  | nil => rfl
  | cons x l ih => simp only [List.map_cons, sumI, ih]; omega

theorem sum_lt (n k : Nat) : sumI ((List.range n).map fun i => if i < k then 1 else 0) = ((min n k : Nat) : Int) := by
  induction n with
  | zero => simp [sumI]
  | succ n ih =>
    rw [List.range_succ, List.map_append, sumI_append, ih]
    simp only [List.map_cons, List.map_nil, sumI]
    split <;> omega

theorem list_getD_range (l : List Int) : (List.range l.length).map (fun i => l.getD i 0) = l := by
  apply List.ext_getElem
  · simp
  · intro i h1 h2
    simp [List.getD, List.getElem?_eq_getElem h2]

theorem order_exists {rs : List Int} (h : 0 < rs.length) : ∃ o, IsOrder rs o :=
  ⟨_, insertion_order (m := rs.length - 1) (rs := rs) (by omega)⟩

theorem parts_length (T S : Int) (ws : List Int) : (partsI T S ws).length = ws.length := by simp [partsI]

theorem parts_get (T S : Int) (ws : List Int) (i : Nat) (hi : i < ws.length) : (partsI T S ws).getD i 0 = T * ws.getD i 0 / S + if rank (rests T S ws) i < (leftOver T S ws).toNat then 1 else 0 := by
  have : (partsI T S ws)[i]? = some ((qs T S ws).getD i 0 + if rank (rests T S ws) i < (leftOver T S ws).toNat then 1 else 0) := by
    unfold partsI
    rw [List.getElem?_map, List.getElem?_range hi]
    rfl
  rw [List.getD, this]
  simp [qs, List.getD, List.getElem?_eq_getElem hi]

theorem parts_sum {T S : Int} {ws : List Int} (hpos : 0 < ws.length) (hS : 0 < S) (h : sumI ws = S) : sumI (partsI T S ws) = T := by
  unfold partsI
  rw [sumI_map_add, show ws.length = (qs T S ws).length from by simp [qs], list_getD_range]
  have hr : (rests T S ws).length = (qs T S ws).length := by simp [rests, qs]
  obtain ⟨o, ho⟩ := order_exists (rs := rests T S ws) (by simp [rests]; omega)
  have e1 : sumI ((List.range (qs T S ws).length).map fun i => if rank (rests T S ws) i < (leftOver T S ws).toNat then (1 : Int) else 0) = sumI (o.map fun i => if rank (rests T S ws) i < (leftOver T S ws).toNat then (1 : Int) else 0) := by
    rw [← hr]
    exact (sumI_perm (ho.perm.map _)).symm
  have e2 : (o.map fun i => if rank (rests T S ws) i < (leftOver T S ws).toNat then (1 : Int) else 0) = (List.range o.length).map fun i => if i < (leftOver T S ws).toNat then (1 : Int) else 0 := by
    apply List.ext_getElem
    · simp
    · intro k h1 h2
      simp only [List.getElem_map, List.getElem_range]
      rw [ho.rank k (by simpa using h1)]
  rw [e1, e2, sum_lt]
  have h1 := left_nonneg (T := T) hS h
  have h2 := left_le (T := T) hS h
  have h3 : o.length = ws.length := by rw [ho.length]; simp [rests]
  have h4 : T = sumI (qs T S ws) + leftOver T S ws := by unfold leftOver; omega
  omega

theorem sumI_count {l : List Int} {c : Int} (h : ∀ x ∈ l, 0 ≤ x ∧ x ≤ c) : sumI l ≤ c * (l.filter fun x => decide (0 < x)).length := by
  induction l with
  | nil => simp [sumI]
  | cons x l ih =>
    have h1 := h x (List.mem_cons_self ..)
    have h2 := ih fun y hy => h y (List.mem_cons_of_mem _ hy)
    by_cases hx : 0 < x
    · rw [List.filter_cons_of_pos (by simpa using hx)]
      simp only [sumI, List.length_cons, Int.natCast_add, Int.natCast_one, Int.mul_add, Int.mul_one]
      omega
    · rw [List.filter_cons_of_neg (by simpa using hx)]
      simp only [sumI]
      omega

theorem filter_range_length (l : List Int) (p : Int → Bool) : ((List.range l.length).filter fun j => p (l.getD j 0)).length = (l.filter p).length := by
  conv => rhs; rw [← list_getD_range l]
  rw [List.filter_map, List.length_map]
  rfl

/-- A rest of 0 gets nothing more. -/
theorem rank_zero {T S : Int} {ws : List Int} (hS : 0 < S) (h : sumI ws = S) (i : Nat) (h0 : (rests T S ws).getD i 0 = 0) : ¬ rank (rests T S ws) i < (leftOver T S ws).toNat := by
  have h1 := left_mul (T := T) h
  have h2 : sumI (rests T S ws) ≤ S * ((rests T S ws).filter fun x => decide (0 < x)).length := sumI_count fun x hx => ⟨rests_nonneg hS x hx, Int.le_of_lt (rests_lt hS x hx)⟩
  rw [← h1, Int.mul_comm S] at h2
  have h3 := Int.le_of_mul_le_mul_right h2 hS
  have h4 : ((rests T S ws).filter fun x => decide (0 < x)).length ≤ rank (rests T S ws) i := by
    rw [← filter_range_length (rests T S ws) fun x => decide (0 < x)]
    unfold rank
    rw [← List.countP_eq_length_filter, ← List.countP_eq_length_filter]
    refine List.countP_mono_left fun j _ hj => ?_
    rw [bef_iff, h0]
    exact Or.inl (by simpa using hj)
  omega

theorem rank_mono {rs : List Int} {i k : Nat} (h : bef rs i k = true) : rank rs i ≤ rank rs k := by
  unfold rank
  rw [← List.countP_eq_length_filter, ← List.countP_eq_length_filter]
  refine List.countP_mono_left fun j _ hj => ?_
  rw [bef_iff] at *
  omega

theorem parts_bounds {T S : Int} {ws : List Int} (i : Nat) (hi : i < ws.length) : T * ws.getD i 0 / S ≤ (partsI T S ws).getD i 0 ∧ (partsI T S ws).getD i 0 ≤ T * ws.getD i 0 / S + 1 := by
  rw [parts_get T S ws i hi]
  split <;> omega

theorem parts_exact {T S : Int} {ws : List Int} (hS : 0 < S) (h : sumI ws = S) (i : Nat) (hi : i < ws.length) (h0 : T * ws.getD i 0 % S = 0) : (partsI T S ws).getD i 0 = T * ws.getD i 0 / S := by
  have := rank_zero (T := T) hS h i (by simp [rests, List.getD, List.getElem?_eq_getElem hi] at h0 ⊢; exact h0)
  rw [parts_get T S ws i hi, if_neg this]
  omega

theorem parts_mono {T S : Int} {ws : List Int} (hT : 0 ≤ T) (hS : 0 < S) (hw : ∀ w ∈ ws, 0 ≤ w) (h : sumI ws = S) (i k : Nat) (hi : i < ws.length) (hk : k < ws.length) (hlt : ws.getD k 0 < ws.getD i 0) : (partsI T S ws).getD k 0 ≤ (partsI T S ws).getD i 0 := by
  have ri : (rests T S ws).getD i 0 = T * ws.getD i 0 % S := by simp [rests, List.getD, List.getElem?_eq_getElem hi]
  have rk : (rests T S ws).getD k 0 = T * ws.getD k 0 % S := by simp [rests, List.getD, List.getElem?_eq_getElem hk]
  have hm : T * ws.getD k 0 ≤ T * ws.getD i 0 := Int.mul_le_mul_of_nonneg_left (Int.le_of_lt hlt) hT
  have hq : T * ws.getD k 0 / S ≤ T * ws.getD i 0 / S := Int.ediv_le_ediv hS hm
  rw [parts_get T S ws i hi, parts_get T S ws k hk]
  by_cases hT0 : T = 0
  · subst hT0
    have hl : leftOver 0 S ws = 0 := by
      have h1 := left_prefix (T := 0) (Int.le_refl _) hS hw h (ws.length)
      have e : (qs 0 S ws).take ws.length = qs 0 S ws := List.take_of_length_le (by simp [qs])
      rw [e] at h1
      unfold leftOver
      omega
    rw [hl]
    simp
  · by_cases hqq : T * ws.getD k 0 / S = T * ws.getD i 0 / S
    · have hlt' : T * ws.getD k 0 < T * ws.getD i 0 := Int.mul_lt_mul_of_pos_left hlt (by omega)
      have e1 := Int.mul_ediv_add_emod (T * ws.getD k 0) S
      have e2 := Int.mul_ediv_add_emod (T * ws.getD i 0) S
      rw [hqq] at e1
      have hb : bef (rests T S ws) i k = true := by
        rw [bef_iff, ri, rk]
        exact Or.inl (by omega)
      have := rank_mono hb
      rw [hqq]
      split
      · rw [if_pos (by omega)]; exact Int.le_refl _
      · split <;> omega
    · split <;> split <;> omega

end Go.Proofs.Ytbndcjbnpgdpjaa
