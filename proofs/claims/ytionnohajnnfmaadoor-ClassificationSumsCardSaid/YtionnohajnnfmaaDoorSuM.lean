/- Plain mathematics of sums of lines: the sum under a code is that of its own lines and of those under its children, and those of three years are that of all; of no function of the program; no condition. -/
import Derived.Test.YtionnohajnnfmaaDoorLvM
import Derived.Test.YtionnohajnnfmaaDoorClSum
namespace Go.Proofs.YtionnohajnnfmaaDoor
open Go.RowKit Go.Lib Go.Proofs

/-- The lines of made classifications: each of a code of the list, a year from 5 to 7, an amount. -/
def MadeLn (ls : List (List Nat)) (x : Ln) : Prop := (∃ p ∈ ls, x.1 = codeT p) ∧ (x.2.1 = 5 ∨ x.2.1 = 6 ∨ x.2.1 = 7) ∧ 0 ≤ x.2.2 ∧ x.2.2 ≤ 99999

theorem made_lines {ls : List (List Nat)} (h : TreeOk ls) {L : List Ln} (hL : ∀ x ∈ L, MadeLn ls x) : LinesOk L := fun x hx => by
  obtain ⟨⟨p, hp, e⟩, _, h1, h2⟩ := hL x hx
  have := codeT_size (h.good p hp)
  exact ⟨by rw [e]; omega, h1, by omega⟩

/-- The years' sums. -/
theorem sum_years (ls : List (List Nat)) (top : ByteArray) : ∀ (L : List Ln), (∀ x ∈ L, MadeLn ls x) → sumB top 5 L + sumB top 6 L + sumB top 7 L = sumB top (-1) L
  | [], _ => by simp [sumB]
  | x :: L, h => by
    have ih := sum_years ls top L fun y hy => h y (List.mem_cons_of_mem _ hy)
    obtain ⟨_, hy, _, _⟩ := h x (by simp)
    have k5 : takenB top 5 x = (decide (x.2.1 = 5) && coversB top x.1) := by simp [takenB]
    have k6 : takenB top 6 x = (decide (x.2.1 = 6) && coversB top x.1) := by simp [takenB]
    have k7 : takenB top 7 x = (decide (x.2.1 = 7) && coversB top x.1) := by simp [takenB]
    have ka : takenB top (-1) x = coversB top x.1 := by simp [takenB]
    rw [sumB, sumB, sumB, sumB, k5, k6, k7, ka]
    cases coversB top x.1 <;> rcases hy with e | e | e <;> simp [e] <;> omega

/-- The sum of a year over the children of a code. -/
def sumK (ls : List (List Nat)) (x : List Nat) (year : Int) (L : List Ln) : Int := ((kids ls x).map fun c => sumB (codeT c) year L).sum

/-- The own lines of a code in a year. -/
def ownB (c : ByteArray) (year : Int) : List Ln → Int
  | [] => 0
  | x :: l => (if x.1 = c ∧ x.2.1 = year then x.2.2 else 0) + ownB c year l

theorem sum_map_add {α : Type} (f g : α → Int) : ∀ (l : List α), (l.map fun x => f x + g x).sum = (l.map f).sum + (l.map g).sum
  | [] => rfl
  | x :: l => by simp only [List.map_cons, List.sum_cons, sum_map_add f g l]; omega
theorem sum_map_zero {α : Type} {f : α → Int} : ∀ {l : List α}, (∀ x ∈ l, f x = 0) → (l.map f).sum = 0
  | [], _ => rfl
  | x :: l, h => by rw [List.map_cons, List.sum_cons, h x (by simp), sum_map_zero fun y hy => h y (List.mem_cons_of_mem _ hy)]; rfl
theorem sum_map_one {α : Type} {f : α → Int} {a : α} {m : Int} (ha : f a = m) : ∀ {l : List α}, a ∈ l → l.Nodup → (∀ x ∈ l, x ≠ a → f x = 0) → (l.map f).sum = m
  | [], h, _, _ => absurd h (by simp)
  | x :: l, h, hn, h0 => by
    rw [List.map_cons, List.sum_cons]
    obtain ⟨n1, n2⟩ := List.nodup_cons.1 hn
    by_cases e : x = a
    · subst e
      rw [ha, sum_map_zero fun y hy => h0 y (List.mem_cons_of_mem _ hy) (fun e => n1 (e ▸ hy))]
      omega
    · rw [h0 x (by simp) e, sum_map_one ha (by rcases List.mem_cons.1 h with h | h; exact absurd h.symm e; exact h) n2 fun y hy => h0 y (List.mem_cons_of_mem _ hy)]
      omega


/-- Under x lies x itself, or what lies under just one child of x. -/
theorem kid_sum {ls : List (List Nat)} (h : TreeOk ls) {x p : List Nat} (hx : x ∈ ls) (hp : p ∈ ls) (m : Int) :
    (if x <+: p then m else 0) = (if p = x then m else 0) + ((kids ls x).map fun c => if c <+: p then m else 0).sum := by
  have hnd : (kids ls x).Nodup := sorted_nodup (sorted_filter h.sorted _)
  have hgood : ∀ c ∈ kids ls x, ∃ a, c = x ++ [a] := fun c hc => by
    obtain ⟨h1, h2⟩ := mem_kids.1 hc
    exact dropLast_snoc h2 (h.good c h1).1
  by_cases h1 : x <+: p
  · rw [if_pos h1]
    by_cases h2 : p = x
    · rw [if_pos h2, sum_map_zero fun c hc => ?_]
      · omega
      · obtain ⟨a, rfl⟩ := hgood c hc
        rw [if_neg]
        intro h3
        have := h3.length_le
        rw [h2] at this
        simp at this
        omega
    · have hlen : x.length < p.length := by
        rcases Nat.lt_or_ge x.length p.length with h | h
        · exact h
        · exact absurd (h1.eq_of_length (Nat.le_antisymm h1.length_le h)).symm h2
      have ht := h.take hp (p.length - (x.length + 1)) (x.length + 1) (by omega) (by omega)
      have hk : p.take (x.length + 1) ∈ kids ls x := mem_kids.2 ⟨ht, by
        rw [List.dropLast_eq_take, List.length_take, List.take_take, show min (min (x.length + 1) p.length - 1) (x.length + 1) = x.length by omega]
        exact (List.prefix_iff_eq_take.1 h1).symm⟩
      rw [if_neg h2, sum_map_one (a := p.take (x.length + 1)) (m := m) (by rw [if_pos (List.take_prefix _ _)]) hk hnd fun c hc hne => ?_]
      · omega
      · obtain ⟨a, rfl⟩ := hgood c hc
        rw [if_neg]
        intro h3
        apply hne
        have := List.prefix_iff_eq_take.1 h3
        rw [this]
        simp
  · rw [if_neg h1, if_neg (show ¬ p = x from fun e => h1 (by subst e; exact List.prefix_refl _)), sum_map_zero fun c hc => ?_]
    · omega
    · obtain ⟨a, rfl⟩ := hgood c hc
      rw [if_neg]
      intro h3
      exact h1 ((List.prefix_append x [a]).trans h3)

theorem kids_sum {ls : List (List Nat)} (h : TreeOk ls) {x : List Nat} (hx : x ∈ ls) (year : Int) (hy : year ≠ -1) : ∀ (L : List Ln), (∀ l ∈ L, MadeLn ls l) → sumB (codeT x) year L = ownB (codeT x) year L + sumK ls x year L
  | [], _ => by
    simp only [sumB, ownB, sumK]
    rw [sum_map_zero fun c _ => rfl]
    rfl
  | l :: L, hL => by
    have ih := kids_sum h hx year hy L fun y hy => hL y (List.mem_cons_of_mem _ hy)
    obtain ⟨⟨p, hp, e⟩, _, _, _⟩ := hL l (by simp)
    unfold sumK at ih ⊢
    simp only [sumB, ownB]
    rw [sum_map_add, ih]
    have hk := kid_sum h hx hp (if l.2.1 = year then l.2.2 else 0)
    have gp := h.good p hp
    have gx := h.good x hx
    have e1 : (if takenB (codeT x) year l = true then l.2.2 else 0) = if x <+: p then (if l.2.1 = year then l.2.2 else 0) else 0 := by
      unfold takenB
      rw [e, coversB_codeT gp gx]
      by_cases h1 : x <+: p <;> by_cases h2 : l.2.1 = year <;> simp [h1, h2, hy]
    have e2 : (if l.1 = codeT x ∧ l.2.1 = year then l.2.2 else 0) = if p = x then (if l.2.1 = year then l.2.2 else 0) else 0 := by
      rw [e]
      by_cases h1 : p = x
      · subst h1
        by_cases h2 : l.2.1 = year <;> simp [h2]
      · have : codeT p ≠ codeT x := fun e => h1 (codeT_inj gp gx e)
        rw [if_neg (fun q => this q.1), if_neg h1]
    have e3 : ((kids ls x).map fun c => if takenB (codeT c) year l = true then l.2.2 else 0) = (kids ls x).map fun c => if c <+: p then (if l.2.1 = year then l.2.2 else 0) else 0 := by
      refine List.map_congr_left fun c hc => ?_
      have gc := h.good c (mem_kids.1 hc).1
      unfold takenB
      rw [e, coversB_codeT gp gc]
      by_cases h1 : c <+: p <;> by_cases h2 : l.2.1 = year <;> simp [h1, h2, hy]
    rw [e1, e2, e3]
    omega

end Go.Proofs.YtionnohajnnfmaaDoor
