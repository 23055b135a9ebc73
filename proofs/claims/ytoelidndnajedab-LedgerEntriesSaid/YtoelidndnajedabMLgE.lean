/- The postings of an account's entries, as mathematics, and the program's Entries of a right account. -/
import Derived.Test.YtoelidndnajedabMLgP
import Derived.Test.YtoelidndnajedabMLgB
import Derived.Test.YtoelidndnajedabMAcRf
set_option linter.unusedSimpArgs false
set_option linter.unusedVariables false
set_option linter.unusedSimpArgs false
set_option linter.unusedVariables false
namespace Go.Proofs.Ytoelidndnajedab
open Go.RowKit Go.Lib Go.Proofs Go.Maps

theorem snoc_ind {α : Type} {P : List α → Prop} (h0 : P []) (h1 : ∀ l x, P l → P (l ++ [x])) (l : List α) : P l := by
  have h : ∀ n, ∀ l : List α, l.length = n → P l := by
    intro n
    induction n with
    | zero => intro l h; obtain rfl := List.length_eq_zero_iff.1 h; exact h0
    | succ n ih =>
      intro l h
      have hne : l ≠ [] := by intro e; subst e; simp at h
      rw [← List.dropLast_concat_getLast hne]
      exact h1 _ _ (ih _ (by simp [h]))
  exact h _ l rfl
/-- What an entry is in the books. -/
def postE (n ent : Int) (e : Ent) : Option Pst := if e.frm = 0 then some ⟨n, e.day, ent, 110, 410, e.amount, 0, e.ref⟩ else if e.to = 0 then some ⟨n, e.day, ent, 510, 110, e.amount, 0, e.ref⟩ else none
def stepE (ent first : Int) (acc : List Pst) (e : Ent) : List Pst := match postE (first + acc.length) ent e with
  | some p => acc ++ [p]
  | none => acc
def entsE (ent first : Int) (es : List Ent) : List Pst := es.foldl (stepE ent first) []
theorem entsE_snoc (ent first : Int) (es : List Ent) (e : Ent) : entsE ent first (es ++ [e]) = stepE ent first (entsE ent first es) e := by
  unfold entsE; rw [List.foldl_append]; rfl
theorem entsE_len (ent first : Int) (es : List Ent) : ∀ k, k ≤ es.length → (entsE ent first (es.take k)).length ≤ k
  | 0, _ => by simp [entsE]
  | k + 1, hk => by
    have ih := entsE_len ent first es k (by omega)
    rw [List.take_succ_eq_append_getElem (by omega), entsE_snoc]
    unfold stepE
    split
    · rw [List.length_append]; simp; exact ih
    · omega
/-- What is right about the entries of a right account. -/
structure EntOk (e : Ent) : Prop where
  day : 0 ≤ e.day ∧ e.day ≤ 36000
  amt : 1 ≤ e.amount ∧ e.amount ≤ 1000000000000
  ref : 0 ≤ e.ref ∧ e.ref ≤ 1000000
  ne : e.frm ≠ e.to
theorem untilM_ok {credit : Int} : ∀ {es : List Ent} {l m : List SubA} {last : Ent}, untilM credit 36000 es l last = .ok m → daysM es = true → ∀ e ∈ es, EntOk e
  | [], _, _, _, _, _, _, he => by cases he
  | x :: es, l, m, last, h, hd, e, he => by
    simp only [daysM, List.all_cons, Bool.and_eq_true] at hd
    have hy := (inB_true.1 hd.1).2
    unfold untilM at h
    rw [if_neg (by omega)] at h
    split at h
    · cases h
    · rename_i l' hl
      have hf := faultE_zero (addM_parts hl).1
      rcases List.mem_cons.1 he with rfl | he
      · exact ⟨hf.2.2.1, hf.2.2.2.1, hf.2.2.2.2.1, hf.2.2.2.2.2.1⟩
      · exact untilM_ok h hd.2 e he
theorem right_ok {a : Acc} (h : checkM a = 0) : ∀ e ∈ a.ents, EntOk e := by
  obtain ⟨_, _, _, h4, h5⟩ := checkM_zero.1 h
  exact untilM_ok h5 h4
theorem right_days {a : Acc} (h : checkM a = 0) : days 0 a.ents := by
  obtain ⟨_, _, _, h4, h5⟩ := checkM_zero.1 h
  exact untilM_days h5 h4
theorem days_take {l : List Ent} : ∀ {last : Int} (k : Nat), days last l → days last (l.take k) := by
  induction l with
  | nil => intro last k h; simp [days]
  | cons e l ih =>
    intro last k h
    cases k with
    | zero => simp [days]
    | succ k => exact ⟨h.1, ih k h.2⟩
theorem days_last {l : List Ent} {e : Ent} : ∀ {last : Int}, days last (l ++ [e]) → last ≤ e.day ∧ ∀ x ∈ l, x.day ≤ e.day := by
  induction l with
  | nil => intro last h; exact ⟨h.1, fun x hx => by cases hx⟩
  | cons a l ih =>
    intro last h
    have h2 := ih h.2
    have h1 : last ≤ a.day := h.1
    refine ⟨by omega, fun x hx => ?_⟩
    rcases List.mem_cons.1 hx with rfl | hx
    · exact h2.1
    · exact h2.2 x hx
/-- The books that the entries make are right. -/
theorem entsE_ok {ent : Int} (hent : 1 ≤ ent ∧ ent ≤ 10) : ∀ {es : List Ent}, (∀ e ∈ es, EntOk e) → days 0 es → es.length ≤ 400 → LdgOk (entsE ent 1 es) ∧ (∀ d, (∀ e ∈ es, e.day ≤ d) → 0 ≤ d → (lastP (entsE ent 1 es)).day ≤ d) := by
  intro es
  induction es using snoc_ind with
  | h0 => intro _ _ _; exact ⟨ldgOk_nil, fun d _ hd => hd⟩
  | h1 es e ih =>
    intro hok hd hl
    have hl' : es.length ≤ 400 ∧ es.length < 400 := by simp at hl; omega
    have hd' : days 0 es := by have := days_take (es.length) hd; simpa using this
    obtain ⟨h1, h2⟩ := ih (fun x hx => hok x (List.mem_append_left _ hx)) hd' hl'.1
    have he := hok e (by simp)
    have hlast := days_last hd
    have hlen := entsE_len ent 1 es es.length (Nat.le_refl _)
    rw [List.take_length] at hlen
    rw [entsE_snoc]
    unfold stepE
    have hbefore := h2 e.day hlast.2 he.day.1
    by_cases q1 : e.frm = 0
    · have hp : postE (1 + (entsE ent 1 es).length) ent e = some ⟨1 + (entsE ent 1 es).length, e.day, ent, 110, 410, e.amount, 0, e.ref⟩ := if_pos q1
      rw [hp]
      simp only
      have hpo : PstOk ⟨1 + (entsE ent 1 es).length, e.day, ent, 110, 410, e.amount, 0, e.ref⟩ := ⟨by simp only; omega, he.day, hent, by simp, by simp, by simp, he.amt, by simp, by simp only; omega, he.ref⟩
      refine ⟨h1.snoc (by omega) hpo (by simp only; omega) hbefore, fun d hdd _ => ?_⟩
      rw [lastP_snoc]
      exact hdd e (by simp)
    · by_cases q2 : e.to = 0
      · have hp : postE (1 + (entsE ent 1 es).length) ent e = some ⟨1 + (entsE ent 1 es).length, e.day, ent, 510, 110, e.amount, 0, e.ref⟩ := (if_neg q1).trans (if_pos q2)
        rw [hp]
        simp only
        have hpo : PstOk ⟨1 + (entsE ent 1 es).length, e.day, ent, 510, 110, e.amount, 0, e.ref⟩ := ⟨by simp only; omega, he.day, hent, by simp, by simp, by simp, he.amt, by simp, by simp only; omega, he.ref⟩
        refine ⟨h1.snoc (by omega) hpo (by simp only; omega) hbefore, fun d hdd _ => ?_⟩
        rw [lastP_snoc]
        exact hdd e (by simp)
      · have hp : postE (1 + (entsE ent 1 es).length) ent e = none := (if_neg q1).trans (if_neg q2)
        rw [hp]
        simp only
        exact ⟨h1, fun d hdd h0 => h2 d (fun x hx => hdd x (List.mem_append_left _ hx)) h0⟩
/-- What the books hold is what flowed. -/
theorem entsE_of {ent k : Int} : ∀ {es : List Ent}, (∀ e ∈ es, EntOk e) → ofM ent (byDay k) 110 (entsE ent 1 es) = flowI 0 k es - flowO 0 k es ∧ ofM ent (byDay k) 410 (entsE ent 1 es) = -flowI 0 k es ∧ ofM ent (byDay k) 510 (entsE ent 1 es) = flowO 0 k es := by
  intro es
  induction es using snoc_ind with
  | h0 => intro _; exact ⟨rfl, rfl, rfl⟩
  | h1 es e ih =>
    intro hok
    obtain ⟨h1, h2, h3⟩ := ih fun x hx => hok x (List.mem_append_left _ hx)
    have he := hok e (by simp)
    have hne := he.ne
    have hd := he.day
    rw [entsE_snoc, flowI_snoc, flowO_snoc]
    unfold stepE
    by_cases q1 : e.frm = 0
    · have q2 : ¬ e.to = 0 := fun q => hne (q1.trans q.symm)
      have hp : postE (1 + (entsE ent 1 es).length) ent e = some ⟨1 + (entsE ent 1 es).length, e.day, ent, 110, 410, e.amount, 0, e.ref⟩ := if_pos q1
      have hi : inE e = e.amount := if_pos q1
      have ho : outE e = 0 := if_neg q2
      rw [hp, hi, ho]
      simp only
      rw [ofM_snoc, ofM_snoc, ofM_snoc, h1, h2, h3]
      by_cases q3 : e.day ≤ k
      · have hb : byDay k e.day = true := decide_eq_true q3
        simp [hitE, hb, netP, hd.1, q3]
        omega
      · have hb : byDay k e.day = false := decide_eq_false q3
        simp [hb, q3]
    · by_cases q2 : e.to = 0
      · have hp : postE (1 + (entsE ent 1 es).length) ent e = some ⟨1 + (entsE ent 1 es).length, e.day, ent, 510, 110, e.amount, 0, e.ref⟩ := (if_neg q1).trans (if_pos q2)
        have hi : inE e = 0 := if_neg q1
        have ho : outE e = e.amount := if_pos q2
        rw [hp, hi, ho]
        simp only
        rw [ofM_snoc, ofM_snoc, ofM_snoc, h1, h2, h3]
        by_cases q3 : e.day ≤ k
        · have hb : byDay k e.day = true := decide_eq_true q3
          simp [hitE, hb, netP, hd.1, q3]
          omega
        · have hb : byDay k e.day = false := decide_eq_false q3
          simp [hb, q3]
      · have hp : postE (1 + (entsE ent 1 es).length) ent e = none := (if_neg q1).trans (if_neg q2)
        have hi : inE e = 0 := if_neg q1
        have ho : outE e = 0 := if_neg q2
        rw [hp, hi, ho]
        simp only
        refine ⟨?_, ?_, ?_⟩ <;> split <;> omega

end Go.Proofs.Ytoelidndnajedab
