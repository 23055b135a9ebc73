/- Balances in their order: an account stands once; what consolidated balances are at most; of no function of the program; no condition. -/
import Derived.Test.YtdbpbmejgdbppaaCsZ
import Derived.Test.YtdbpbmejgdbppaaCsY
set_option linter.unusedSimpArgs false
set_option linter.unusedVariables false
namespace Go.Proofs.Ytdbpbmejgdbppaa
open Go.RowKit Go.Lib Go.Proofs Go.Maps

theorem bals_asc (g : Int → Int) : (balsM g).Pairwise fun x y => x.acct < y.acct := by
  unfold balsM balsOf
  rw [List.pairwise_map]
  exact acctsM_asc.filter _
theorem valB_none {t : Int} : ∀ {L : List Blc}, (∀ b ∈ L, b.acct ≠ t) → valB t L = 0
  | [], _ => rfl
  | b :: L, h => by
    rw [valB, if_neg (h b List.mem_cons_self), valB_none fun x hx => h x (List.mem_cons_of_mem _ hx)]
    omega
theorem valB_part {t : Int} : ∀ {L : List Blc}, (L.Pairwise fun x y => x.acct < y.acct) → ∀ j, valB t (L.take j) = 0 ∨ valB t (L.take j) = valB t L
  | [], _, j => by simp
  | b :: L, h, 0 => Or.inl rfl
  | b :: L, h, j + 1 => by
    rw [List.pairwise_cons] at h
    rw [List.take_succ_cons, valB, valB]
    by_cases e : b.acct = t
    · have n1 : valB t L = 0 := valB_none fun x hx hq => by have := h.1 x hx; omega
      have n2 : valB t (L.take j) = 0 := valB_none fun x hx hq => by have := h.1 x (List.mem_of_mem_take hx); omega
      rw [n1, n2]
      exact Or.inr rfl
    · rw [if_neg e]
      rcases valB_part h.2 (t := t) j with e1 | e1
      · left; omega
      · right; omega
theorem valB_take {t : Int} {L : List Blc} {j : Nat} (hj : j < L.length) : valB t (L.take (j + 1)) = valB t (L.take j) + (if L[j].acct = t then L[j].amt else 0) := by
  rw [List.take_succ_eq_append_getElem hj, valB_app]
  simp [valB]
theorem elAc_small {d t : Int} {l : List Pst} {g : List Int} (h : LdgOk l) (hl : l.length ≤ 12) (hg : g.length ≤ 10) : -28800000000000000 ≤ elAc d l t (eachQ g (refsM l)) ∧ elAc d l t (eachQ g (refsM l)) ≤ 28800000000000000 := by
  have h1 := elAc_bound (d := d) (t := t) h.mem (qs := eachQ g (refsM l)) fun q hq => (mem_eachQ hq).1
  have h2 := eachQ_len (R := refsM l) hg
  have h3 := refsM_len l
  have h4 : 1000000000000 * (l.length : Int) * ((eachQ g (refsM l)).length : Int) ≤ 12000000000000 * 2400 := Int.mul_le_mul (by omega) (by omega) (by omega) (by omega)
  omega
theorem whole_small {d t : Int} {l : List Pst} {g : List Int} (h : LdgOk l) (hl : l.length ≤ 12) (hg : g.length ≤ 10) : -40000000000000000 ≤ wholeM d l g t ∧ wholeM d l g t ≤ 40000000000000000 := by
  have h1 := elAc_small (d := d) (t := t) (g := g) h hl hg
  have h2 : ∀ g : List Int, -(400000000000000 * (g.length : Int)) ≤ grpM d l t g ∧ grpM d l t g ≤ 400000000000000 * (g.length : Int) := by
    intro g
    induction g with
    | nil => simp [grpM]
    | cons e g ih =>
      have h3 := ofM_bound (e := e) (f := fun x => decide (x ≤ d)) (a := t) h.mem
      have h4 := h.len
      rw [grpM, List.length_cons]
      omega
  have h3 := h2 g
  unfold wholeM
  omega
/-- What the rows of an account hold, up to a place. -/
theorem part_small {d t : Int} {l : List Pst} {g : List Int} (h : LdgOk l) (hl : l.length ≤ 12) (hg : g.length ≤ 10) (ht : 100 ≤ t ∧ t ≤ 599) (j : Nat) : -40000000000000000 ≤ valB t ((balsM (wholeM d l g)).take j) ∧ valB t ((balsM (wholeM d l g)).take j) ≤ 40000000000000000 := by
  have h1 := whole_small (d := d) (t := t) (g := g) h hl hg
  rcases valB_part (t := t) (bals_asc (wholeM d l g)) j with e | e
  · rw [e]; omega
  · rw [e, valB_bals _ ht]; exact h1

end Go.Proofs.Ytdbpbmejgdbppaa
