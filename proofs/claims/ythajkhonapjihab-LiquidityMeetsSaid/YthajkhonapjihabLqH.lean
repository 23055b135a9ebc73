/- The mathematics of Apply and Right: the plans made for positions, laid onto them. -/
import Derived.Test.YthajkhonapjihabLqG
set_option linter.unusedSimpArgs false
set_option linter.unusedVariables false
namespace Go.Proofs.Ythajkhonapjihab
open Go.RowKit Go.Lib Go.Proofs

theorem day_lt {l : List Pos} (h : PosIn l) {i : Nat} : ∀ j, ∀ hj : j < l.length, ∀ hij : i < j, (l[i]'(by omega)).day < l[j].day := by
  intro j
  induction j with
  | zero => intro hj hij; omega
  | succ j ih =>
    intro hj hij
    have h1 := h.asc (j + 1) hj (by omega) (by omega)
    simp only [Nat.add_sub_cancel] at h1
    rcases Nat.lt_or_ge i j with h2 | h2
    · have := ih (by omega) h2
      omega
    · have h3 : i = j := by omega
      subst h3
      exact h1

theorem daysP_pair {l : List Pos} (h : PosIn l) : (daysP l).Pairwise (· < ·) := by
  rw [List.pairwise_iff_getElem]
  intro i j hi hj hij
  rw [daysP_len] at hi hj
  simpa [daysP] using day_lt h j hj hij

theorem pair_le {l : List Int} (h : l.Pairwise (· < ·)) : l.Pairwise (· ≤ ·) := h.imp fun hab => Int.le_of_lt hab

theorem plans_days (b : Bnd) : ∀ l, (daysL (plansM b l)).Sublist (daysP l)
  | [] => List.Sublist.slnil
  | p :: l => by
    have ih := plans_days b l
    simp only [plansM, daysL, daysP, List.map_append, List.map_cons] at ih ⊢
    unfold planOf
    split
    · simpa using ih
    · simpa using ih.cons p.day

theorem plans_pair (b : Bnd) {l : List Pos} (h : (daysP l).Pairwise (· < ·)) : (daysL (plansM b l)).Pairwise (· < ·) := h.sublist (plans_days b l)
theorem plans_sub (b : Bnd) (l : List Pos) : ∀ d ∈ daysL (plansM b l), d ∈ daysP l := fun d hd => (plans_days b l).subset hd

/-- In ascending numbers as many are less than one of them as stand before it. -/
theorem count_at : ∀ (l : List Int), l.Pairwise (· < ·) → ∀ i (hi : i < l.length), l.countP (fun x => decide (x < l[i])) = i
  | [], _, i, hi => by simp at hi
  | a :: l, h, 0, hi => by
    rw [List.countP_eq_zero]
    intro x hx
    rw [List.pairwise_cons] at h
    simp only [List.getElem_cons_zero, decide_eq_true_eq]
    rcases List.mem_cons.1 hx with rfl | hx
    · omega
    · have := h.1 x hx
      omega
  | a :: l, h, i + 1, hi => by
    rw [List.pairwise_cons] at h
    have hi' : i < l.length := by simpa using hi
    have ih := count_at l h.2 i hi'
    have ha := h.1 l[i] (List.getElem_mem hi')
    simp only [List.getElem_cons_succ, List.countP_cons, ih]
    simp [ha]

/-- A plan laid onto a position. -/
def bump (p : Pl) (x : Pos) : Pos := if x.day = p.day then ⟨x.day, x.amt + (p.raise - p.place)⟩ else x
def applyM (l : List Pos) (ps : List Pl) : List Pos := ps.foldl (fun l p => l.map (bump p)) l
def adj (b : Bnd) (x : Pos) : Pos := ⟨x.day, x.amt + (decR b x.amt - decP b x.amt)⟩

theorem bump_day (p : Pl) (x : Pos) : (bump p x).day = x.day := by unfold bump; split <;> rfl
theorem bump_days (p : Pl) (l : List Pos) : daysP (l.map (bump p)) = daysP l := by simp [daysP, bump_day]
theorem apply_days (ps : List Pl) : ∀ l, daysP (applyM l ps) = daysP l := by
  induction ps with
  | nil => intro l; rfl
  | cons p ps ih => intro l; exact (ih _).trans (bump_days p l)
theorem apply_snoc (l : List Pos) (ps : List Pl) (p : Pl) : applyM l (ps ++ [p]) = (applyM l ps).map (bump p) := by simp [applyM, List.foldl_append]

theorem apply_cons (ps : List Pl) : ∀ (x : Pos) (l : List Pos), (∀ p ∈ ps, p.day ≠ x.day) → applyM (x :: l) ps = x :: applyM l ps := by
  induction ps with
  | nil => intro x l _; rfl
  | cons p ps ih =>
    intro x l h
    have h1 : bump p x = x := by
      unfold bump
      rw [if_neg]
      exact fun he => h p (List.mem_cons_self ..) he.symm
    show applyM ((x :: l).map (bump p)) ps = _
    rw [List.map_cons, h1, ih x _ fun q hq => h q (List.mem_cons_of_mem _ hq)]
    rfl

theorem dec_nonneg {b : Bnd} (h : BndOk b) (a : Int) : 0 ≤ decR b a ∧ 0 ≤ decP b a := by
  have := raise_place h a
  unfold decR decP
  split <;> omega

theorem apply_one {b : Bnd} (h : BndOk b) (x : Pos) (l : List Pos) (hx : ∀ d ∈ daysP l, x.day < d) : applyM (x :: l) (planOf b x) = adj b x :: l := by
  unfold planOf
  split
  · show (x :: l).map (bump _) = _
    rw [List.map_cons]
    congr 1
    · simp [bump, adj]
    · refine (List.map_congr_left fun y hy => ?_).trans (List.map_id l)
      have := hx y.day (List.mem_map_of_mem hy)
      simp only [bump, id]
      rw [if_neg (by omega)]
  · rename_i hn
    have := dec_nonneg h x.amt
    have h1 : decR b x.amt = 0 := by omega
    have h2 : decP b x.amt = 0 := by omega
    show x :: l = _
    unfold adj
    rw [h1, h2]
    simp

/-- The plans made for positions, laid onto them. -/
theorem apply_plans {b : Bnd} (h : BndOk b) : ∀ l : List Pos, (daysP l).Pairwise (· < ·) → applyM l (plansM b l) = l.map (adj b)
  | [], _ => rfl
  | x :: l, hp => by
    have hp' : (∀ d ∈ daysP l, x.day < d) ∧ (daysP l).Pairwise (· < ·) := List.pairwise_cons.1 hp
    have h1 : applyM (x :: l) (plansM b (x :: l)) = applyM (applyM (x :: l) (planOf b x)) (plansM b l) := by simp [plansM, applyM, List.foldl_append]
    rw [h1, apply_one h x l hp'.1, apply_cons, apply_plans h l hp'.2]
    · rfl
    · intro p hm he
      have h2 := hp'.1 p.day (plans_sub b l p.day (List.mem_map_of_mem hm))
      simp only [adj] at he
      omega

/-- A plan changes one position alone, the one that stands where as many days are less than its own. -/
theorem bump_set {l : List Pos} (h : (daysP l).Pairwise (· < ·)) (p : Pl) {i : Nat} (hi : i < l.length) (hd : l[i].day = p.day) : l.map (bump p) = l.set i ⟨l[i].day, l[i].amt + (p.raise - p.place)⟩ := by
  apply List.ext_getElem
  · simp
  · intro j hj hj'
    have hjl : j < l.length := by simpa using hj
    rw [List.getElem_map, List.getElem_set]
    split
    · rename_i he
      subst he
      simp [bump, hd]
    · rename_i he
      unfold bump
      rw [if_neg]
      intro hc
      rw [List.pairwise_iff_getElem] at h
      rcases Nat.lt_or_gt_of_ne he with hl | hl
      · have := h i j (by rw [daysP_len]; exact hi) (by rw [daysP_len]; exact hjl) hl
        simp only [daysP, List.getElem_map] at this
        omega
      · have := h j i (by rw [daysP_len]; exact hjl) (by rw [daysP_len]; exact hi) hl
        simp only [daysP, List.getElem_map] at this
        omega

theorem enough_dec {b : Bnd} {a : Int} (hk : okB b a = true) : enoughB b a (decR b a) (decP b a) = true := by
  unfold decR decP
  rw [hk]
  exact hk
theorem plans_mem {b : Bnd} : ∀ {l : List Pos} {p : Pl}, p ∈ plansM b l → ∃ x ∈ l, p = ⟨x.day, decR b x.amt, decP b x.amt⟩ ∧ (0 < p.raise ∨ 0 < p.place)
  | [], p, h => by simp [plansM] at h
  | x :: l, p, h => by
    simp only [plansM, List.mem_append] at h
    rcases h with h | h
    · unfold planOf at h
      split at h
      · rename_i hc
        rw [List.mem_singleton] at h
        subst h
        exact ⟨x, List.mem_cons_self .., rfl, hc⟩
      · simp at h
    · obtain ⟨y, hy, hr⟩ := plans_mem h
      exact ⟨y, List.mem_cons_of_mem _ hy, hr⟩
theorem plans_none {b : Bnd} (h : BndOk b) : ∀ {l : List Pos} {x : Pos}, x ∈ l → x.day ∉ daysL (plansM b l) → decR b x.amt = 0 ∧ decP b x.amt = 0
  | y :: l, x, hx, hn => by
    simp only [plansM, daysL, List.map_append, List.mem_append, not_or] at hn
    rcases List.mem_cons.1 hx with rfl | hx
    · have := dec_nonneg h x.amt
      have h1 : ¬ (0 < decR b x.amt ∨ 0 < decP b x.amt) := fun hc => hn.1 (by unfold planOf; rw [if_pos hc]; simp)
      omega
    · exact plans_none h hx hn.2
theorem day_inj {l : List Pos} (h : (daysP l).Pairwise (· < ·)) {x y : Pos} (hx : x ∈ l) (hy : y ∈ l) (hd : x.day = y.day) : x = y := by
  obtain ⟨i, hi, rfl⟩ := List.getElem_of_mem hx
  obtain ⟨j, hj, rfl⟩ := List.getElem_of_mem hy
  rw [List.pairwise_iff_getElem] at h
  rcases Nat.lt_trichotomy i j with hl | hl | hl
  · have := h i j (by rw [daysP_len]; exact hi) (by rw [daysP_len]; exact hj) hl
    simp only [daysP, List.getElem_map] at this
    omega
  · subst hl; rfl
  · have := h j i (by rw [daysP_len]; exact hj) (by rw [daysP_len]; exact hi) hl
    simp only [daysP, List.getElem_map] at this
    omega
/-- With its plan a position is in the band. -/
theorem adj_in {b : Bnd} {x : Pos} (hk : okB b x.amt = true) : b.lo ≤ (adj b x).amt ∧ (adj b x).amt ≤ b.hi := by
  have h := (enoughB_iff.1 (enough_dec hk))
  simp only [adj]
  omega

end Go.Proofs.Ythajkhonapjihab
