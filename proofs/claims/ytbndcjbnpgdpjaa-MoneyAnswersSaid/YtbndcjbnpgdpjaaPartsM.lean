/- Plain mathematics of the parts of an amount: they add up to it, differ by less than 1 from the exact share, follow the weights; for an amount and weights that are not negative and a positive sum. -/
import Derived.Test.YtbndcjbnpgdpjaaSortM
namespace Go.Proofs.Ytbndcjbnpgdpjaa

/-- The sum of a list of numbers. -/
def sumI : List Int → Int
  | [] => 0
  | x :: l => x + sumI l

theorem sumI_append (a b : List Int) : sumI (a ++ b) = sumI a + sumI b := by
  induction a with
  | nil => simp [sumI]
  | cons x l ih => simp only [List.cons_append, sumI, ih]; omega

theorem sumI_nonneg {l : List Int} (h : ∀ x ∈ l, 0 ≤ x) : 0 ≤ sumI l := by
  induction l with
  | nil => simp [sumI]
  | cons x l ih =>
    have := h x (List.mem_cons_self ..)
    have := ih fun y hy => h y (List.mem_cons_of_mem _ hy)
    simp only [sumI]; omega

theorem sumI_take_succ (l : List Int) (k : Nat) (hk : k < l.length) : sumI (l.take (k + 1)) = sumI (l.take k) + l.getD k 0 := by
  rw [List.take_succ_eq_append_getElem hk, sumI_append]
  simp [sumI, List.getD, List.getElem?_eq_getElem hk]

theorem sumI_take_le {l : List Int} (h : ∀ x ∈ l, 0 ≤ x) (k : Nat) : sumI (l.take k) ≤ sumI l := by
  have e : sumI l = sumI (l.take k) + sumI (l.drop k) := by rw [← sumI_append, List.take_append_drop]
  have := sumI_nonneg (l := l.drop k) fun x hx => h x (List.mem_of_mem_drop hx)
  omega

theorem sumI_le {l : List Int} {c : Int} (h : ∀ x ∈ l, x ≤ c) : sumI l ≤ c * l.length := by
  induction l with
  | nil => simp [sumI]
  | cons x l ih =>
    have h1 := h x (List.mem_cons_self ..)
    have h2 := ih fun y hy => h y (List.mem_cons_of_mem _ hy)
    simp only [sumI, List.length_cons, Int.natCast_add, Int.natCast_one, Int.mul_add, Int.mul_one]
    omega

/-- What each weight gets at first, and what remains of it. -/
def qs (T S : Int) (ws : List Int) : List Int := ws.map fun w => T * w / S
def rests (T S : Int) (ws : List Int) : List Int := ws.map fun w => T * w % S

theorem qs_rests (T S : Int) (ws : List Int) : sumI (qs T S ws) * S + sumI (rests T S ws) = T * sumI ws := by
  induction ws with
  | nil => simp [qs, rests, sumI]
  | cons w l ih =>
    have e := Int.mul_ediv_add_emod (T * w) S
    simp only [qs, rests, List.map_cons, sumI, Int.add_mul, Int.mul_add] at ih ⊢
    rw [Int.mul_comm (T * w / S) S]
    omega

/-- What is left over behind the weights. -/
def leftOver (T S : Int) (ws : List Int) : Int := T - sumI (qs T S ws)

theorem qs_nonneg {T S : Int} {ws : List Int} (hT : 0 ≤ T) (hS : 0 < S) (hw : ∀ w ∈ ws, 0 ≤ w) : ∀ x ∈ qs T S ws, 0 ≤ x := by
  intro x hx
  obtain ⟨w, hw', rfl⟩ := List.mem_map.1 hx
  exact Int.ediv_nonneg (Int.mul_nonneg hT (hw w hw')) (by omega)

theorem rests_nonneg {T S : Int} {ws : List Int} (hS : 0 < S) : ∀ x ∈ rests T S ws, 0 ≤ x := by
  intro x hx
  obtain ⟨w, hw', rfl⟩ := List.mem_map.1 hx
  exact Int.emod_nonneg _ (by omega)

theorem rests_lt {T S : Int} {ws : List Int} (hS : 0 < S) : ∀ x ∈ rests T S ws, x < S := by
  intro x hx
  obtain ⟨w, hw', rfl⟩ := List.mem_map.1 hx
  exact Int.emod_lt_of_pos _ hS

/-- S times what is left over is the sum of the rests. -/
theorem left_mul {T S : Int} {ws : List Int} (h : sumI ws = S) : leftOver T S ws * S = sumI (rests T S ws) := by
  have := qs_rests T S ws
  unfold leftOver
  rw [h] at this
  rw [Int.sub_mul]
  omega

theorem left_nonneg {T S : Int} {ws : List Int} (hS : 0 < S) (h : sumI ws = S) : 0 ≤ leftOver T S ws := by
  have h1 := left_mul (T := T) h
  have h2 := sumI_nonneg (rests_nonneg (T := T) (ws := ws) hS)
  rw [← h1] at h2
  exact Int.nonneg_of_mul_nonneg_left h2 hS

theorem left_prefix {T S : Int} {ws : List Int} (hT : 0 ≤ T) (hS : 0 < S) (hw : ∀ w ∈ ws, 0 ≤ w) (h : sumI ws = S) (k : Nat) : 0 ≤ T - sumI ((qs T S ws).take k) ∧ T - sumI ((qs T S ws).take k) ≤ T := by
  have h1 := left_nonneg (T := T) hS h
  have h2 := sumI_take_le (qs_nonneg hT hS hw) k
  have h3 := sumI_nonneg (l := (qs T S ws).take k) fun x hx => qs_nonneg hT hS hw x (List.mem_of_mem_take hx)
  unfold leftOver at h1
  omega

theorem left_le {T S : Int} {ws : List Int} (hS : 0 < S) (h : sumI ws = S) : leftOver T S ws ≤ ws.length := by
  have h1 := left_mul (T := T) h
  have h2 : sumI (rests T S ws) ≤ S * (rests T S ws).length := sumI_le fun x hx => Int.le_of_lt (rests_lt hS x hx)
  rw [show (rests T S ws).length = ws.length from by simp [rests], ← h1, Int.mul_comm S] at h2
  exact Int.le_of_mul_le_mul_right h2 hS

/-- The parts: what each weight gets at first, and 1 more where its rest is among the greatest. -/
def partsI (T S : Int) (ws : List Int) : List Int :=
  (List.range ws.length).map fun i => (qs T S ws).getD i 0 + if rank (rests T S ws) i < (leftOver T S ws).toNat then 1 else 0

/-- The parts on the way: 1 more for the places of s. -/
def bumped (b : List Int) (s : List Nat) : List Int := (List.range b.length).map fun i => b.getD i 0 + if i ∈ s then 1 else 0

theorem bumped_nil (b : List Int) : bumped b [] = b := by
  apply List.ext_getElem
  · simp [bumped]
  · intro i h1 h2
    simp [bumped, List.getD, List.getElem?_eq_getElem h2]

theorem bumped_length (b : List Int) (s : List Nat) : (bumped b s).length = b.length := by simp [bumped]

theorem bumped_get (b : List Int) (s : List Nat) (i : Nat) (hi : i < b.length) : (bumped b s)[i]? = some (b.getD i 0 + if i ∈ s then 1 else 0) := by
  simp only [bumped, List.getElem?_map, List.getElem?_range hi, Option.map_some]

theorem bumped_set (b : List Int) (s : List Nat) (i : Nat) (hi : i < b.length) : (bumped b s).set i (b.getD i 0 + 1) = bumped b (s ++ [i]) := by
  apply List.ext_getElem?
  intro j
  by_cases hj : j < b.length
  · rw [bumped_get b _ j hj, List.getElem?_set]
    by_cases e : i = j
    · subst e
      rw [if_pos rfl, if_pos (by rw [bumped_length]; exact hi)]
      simp
    · rw [if_neg e, bumped_get b _ j hj]
      have : j ≠ i := Ne.symm e
      simp [this]
  · rw [List.getElem?_eq_none (by simp [bumped_length]; omega), List.getElem?_eq_none (by rw [bumped_length]; omega)]

theorem bumped_order {T S : Int} {ws : List Int} {o : List Nat} (ho : IsOrder (rests T S ws) o) : bumped (qs T S ws) (o.take (leftOver T S ws).toNat) = partsI T S ws := by
  unfold bumped partsI
  rw [show (qs T S ws).length = ws.length from by simp [qs]]
  apply List.map_congr_left
  intro i hi
  have hi' : i < (rests T S ws).length := by simpa [rests] using hi
  have := ho.mem_take i (leftOver T S ws).toNat hi'
  simp only [this]

end Go.Proofs.Ytbndcjbnpgdpjaa
