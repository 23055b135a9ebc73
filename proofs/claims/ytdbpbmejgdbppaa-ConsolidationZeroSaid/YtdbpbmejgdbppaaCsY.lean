/- What is eliminated is never more than what was posted: mathematics; of no function of the program; no condition. -/
import Derived.Test.YtdbpbmejgdbppaaCsZ
set_option linter.unusedSimpArgs false
set_option linter.unusedVariables false
namespace Go.Proofs.Ytdbpbmejgdbppaa
open Go.RowKit Go.Lib Go.Proofs Go.Maps

def absQ (d e p r : Int) : List Pst → Int
  | [] => 0
  | x :: l => (if hitQ d e p r x then x.amt else 0) + absQ d e p r l
theorem absQ_pos {d a e p r : Int} : ∀ {l : List Pst}, (∀ x ∈ l, PstOk x) → 0 ≤ absQ d e p r l ∧ posQ d a e p r l ≤ absQ d e p r l ∧ -absQ d e p r l ≤ posQ d a e p r l
  | [], _ => by simp [absQ, posQ]
  | x :: l, h => by
    have ih := absQ_pos (d := d) (a := a) (e := e) (p := p) (r := r) (l := l) fun y hy => h y (List.mem_cons_of_mem _ hy)
    have hx := (h x List.mem_cons_self).amt
    have hn : -x.amt ≤ netP a x ∧ netP a x ≤ x.amt := by
      have hne := (h x List.mem_cons_self).ne
      unfold netP
      by_cases e1 : a = x.deb
      · have e2 : ¬ a = x.crd := fun q => hne (e1.symm.trans q)
        rw [if_pos e1, if_neg e2]; omega
      · rw [if_neg e1]; split <;> omega
    simp only [absQ, posQ]
    split <;> omega
def amtM : List Pst → Int
  | [] => 0
  | x :: l => x.amt + amtM l
theorem amtM_le : ∀ {l : List Pst}, (∀ x ∈ l, PstOk x) → 0 ≤ amtM l ∧ amtM l ≤ 1000000000000 * (l.length : Int)
  | [], _ => by simp [amtM]
  | x :: l, h => by
    have ih := amtM_le (l := l) fun y hy => h y (List.mem_cons_of_mem _ hy)
    have hx := (h x List.mem_cons_self).amt
    simp only [amtM, List.length_cons]
    omega
theorem kind_abs {d : Int} {g R : List Int} (hg : g.Pairwise (· < ·)) (hR : R.Pairwise (· < ·)) (m : Mut) : ∀ {l : List Pst}, (∀ x ∈ l, PstOk x) → qsum (fun q => absQ d q.a q.b q.r l) (kindQ m g R) ≤ amtM l
  | [], _ => by
    have : qsum (fun q => absQ d q.a q.b q.r []) (kindQ m g R) = 0 := qsum_zero fun _ _ => rfl
    rw [this]
    exact Int.le_refl _
  | x :: l, h => by
    have ih := kind_abs (d := d) hg hR m (l := l) fun y hy => h y (List.mem_cons_of_mem _ hy)
    have hx := (h x List.mem_cons_self).amt
    have h2 := hit_once (d := d) (c := x.amt) hg hR m x
    simp only [absQ]
    rw [qsum_add, h2, amtM]
    split <;> omega
theorem qsum_le {f k : Qst → Int} : ∀ {l : List Qst}, (∀ q ∈ l, f q ≤ k q) → qsum f l ≤ qsum k l
  | [], _ => Int.le_refl _
  | q :: l, h => by
    have h1 := h q List.mem_cons_self
    have h2 := qsum_le (l := l) fun x hx => h x (List.mem_cons_of_mem _ hx)
    rw [qsum, qsum]
    omega
theorem minQ_abs {d : Int} {l : List Pst} (h : ∀ x ∈ l, PstOk x) {q : Qst} (hq : q.m = mut1 ∨ q.m = mut2) : 0 ≤ minQ d l q ∧ minQ d l q ≤ absQ d q.a q.b q.r l := by
  have h1 := absQ_pos (d := d) (a := q.m.acct) (e := q.a) (p := q.b) (r := q.r) h
  refine ⟨(minQ_bound h hq).1, ?_⟩
  have h2 : ownQ d l q ≤ absQ d q.a q.b q.r l := by
    unfold ownQ
    rcases hq with e | e <;> rw [e] at h1 ⊢ <;> simp only [mut1, mut2] at h1 ⊢ <;> omega
  unfold minQ
  split <;> omega
theorem elimQ_nonneg {d : Int} {l : List Pst} (h : ∀ x ∈ l, PstOk x) : ∀ {qs : List Qst}, (∀ q ∈ qs, q.m = mut1 ∨ q.m = mut2) → 0 ≤ elimQ d l qs
  | [], _ => Int.le_refl _
  | q :: qs, hq => by
    have h1 := elimQ_nonneg h (d := d) (qs := qs) fun x hx => hq x (List.mem_cons_of_mem _ hx)
    have h2 := (minQ_bound (d := d) h (hq q List.mem_cons_self)).1
    rw [elimQ]; omega
/-- What is eliminated of a part of the positions. -/
theorem elim_in {d : Int} {l : List Pst} (h : ∀ x ∈ l, PstOk x) (hl : l.length ≤ 400) {g R : List Int} (hg : g.Pairwise (· < ·)) (hR : R.Pairwise (· < ·)) {qs : List Qst} (hp : qs <+: eachQ g R) : 0 ≤ elimQ d l qs ∧ elimQ d l qs ≤ 800000000000000 := by
  obtain ⟨rest, hr⟩ := hp
  have ha : ∀ q ∈ eachQ g R, q.m = mut1 ∨ q.m = mut2 := fun q hq => (mem_eachQ hq).1
  have h1 : elimQ d l (eachQ g R) = elimQ d l qs + elimQ d l rest := by rw [← hr, elimQ_app]
  have h2 := elimQ_nonneg h (d := d) (qs := rest) fun q hq => ha q (by rw [← hr]; exact List.mem_append_right _ hq)
  have h3 := elimQ_nonneg h (d := d) (qs := qs) fun q hq => ha q (by rw [← hr]; exact List.mem_append_left _ hq)
  have h4 : elimQ d l (eachQ g R) ≤ amtM l + amtM l := by
    rw [elimQ_sum]
    unfold eachQ
    rw [qsum_app]
    have k1 := qsum_le (f := minQ d l) (k := fun q => absQ d q.a q.b q.r l) (l := kindQ mut1 g R) fun q hq => (minQ_abs h (Or.inl (mem_kindQ hq).1)).2
    have k2 := qsum_le (f := minQ d l) (k := fun q => absQ d q.a q.b q.r l) (l := kindQ mut2 g R) fun q hq => (minQ_abs h (Or.inr (mem_kindQ hq).1)).2
    have k3 := kind_abs (d := d) hg hR mut1 h
    have k4 := kind_abs (d := d) hg hR mut2 h
    omega
  have h5 := amtM_le h
  omega
theorem elAc_in {d t : Int} {l : List Pst} (h : ∀ x ∈ l, PstOk x) : ∀ {qs : List Qst}, (∀ q ∈ qs, q.m = mut1 ∨ q.m = mut2) → -elimQ d l qs ≤ elAc d l t qs ∧ elAc d l t qs ≤ elimQ d l qs
  | [], _ => by simp [elAc, elimQ]
  | q :: qs, hq => by
    have h1 := elAc_in h (d := d) (t := t) (qs := qs) fun x hx => hq x (List.mem_cons_of_mem _ hx)
    have h2 := (minQ_bound (d := d) h (hq q List.mem_cons_self)).1
    have hs : (q.m.sgn = 1 ∨ q.m.sgn = -1) ∧ q.m.acct ≠ q.m.oth := by
      rcases hq q List.mem_cons_self with e | e <;> rw [e] <;> decide
    obtain ⟨hs, hne⟩ := hs
    have hz : ∀ x, (q.m.sgn * minQ d l q = x) → -minQ d l q ≤ x ∧ x ≤ minQ d l q := fun x hx => by
      rw [← hx]
      rcases hs with e | e <;> rw [e] <;> omega
    rw [elAc, elimQ]
    obtain ⟨z, hzz⟩ : ∃ z, z = q.m.sgn * minQ d l q := ⟨_, rfl⟩
    have hb := hz z hzz.symm
    rw [← hzz]
    by_cases e1 : t = q.m.acct
    · have e2 : ¬ t = q.m.oth := fun e => hne (e1.symm.trans e)
      rw [if_pos e1, if_neg e2]; omega
    · rw [if_neg e1]; split <;> omega

end Go.Proofs.Ytdbpbmejgdbppaa
