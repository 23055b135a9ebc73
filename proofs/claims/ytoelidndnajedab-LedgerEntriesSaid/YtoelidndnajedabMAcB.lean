/- The single account, as mathematics: the balance of one sub-account is what its entries make; so an account of which a balance, or the amount of an entry, was changed is not right; of no function of the program; no condition. -/
import Derived.Test.YtoelidndnajedabMG5
set_option linter.unusedSimpArgs false
set_option linter.unusedVariables false
namespace Go.Proofs.Ytoelidndnajedab
open Go.RowKit Go.Lib Go.Proofs

def balOf (l : List SubA) (x : Int) : Int := match atS l x with
  | some i => (subAt l i).bal
  | none => 0
theorem balOf_bump {l : List SubA} {id x d : Int} {i : Nat} (h : atS l id = some i) : balOf (bump l i d) x = balOf l x + if x = id then d else 0 := by
  unfold balOf
  rw [atS_ids x (bump_ids l i d)]
  have hi := atS_some h
  cases hx : atS l x with
  | none =>
    rw [if_neg (fun e => by rw [e, h] at hx; cases hx)]
    rfl
  | some j =>
    have hj := atS_some hx
    simp only
    rw [bump_at l i d j hj.1]
    by_cases e : x = id
    · rw [e, h] at hx
      injection hx with hx
      rw [if_pos e, if_pos hx.symm]
      subst hx
      rfl
    · rw [if_neg e, if_neg (fun e2 => e (by rw [← hj.2.1, e2, hi.2.1]))]
      omega
theorem takeM_bal {credit : Int} {l m : List SubA} {id amount x : Int} (h : takeM credit l id amount = some m) (hs : x = id → (atS l x).isSome = true) : balOf m x = balOf l x - if x = id then amount else 0 := by
  unfold takeM at h
  split at h
  · rename_i hat
    injection h with h
    subst h
    rw [if_neg (fun e => by have := hs e; rw [e, hat] at this; cases this)]
    omega
  · rename_i i hat
    split at h
    · cases h
    · injection h with h
      subst h
      rw [balOf_bump hat]
      split <;> omega
theorem giveM_bal {l m : List SubA} {id amount x : Int} (h : giveM l id amount = some m) (hs : x = id → (atS l x).isSome = true) : balOf m x = balOf l x + if x = id then amount else 0 := by
  unfold giveM at h
  split at h
  · rename_i hat
    injection h with h
    subst h
    rw [if_neg (fun e => by have := hs e; rw [e, hat] at this; cases this)]
    omega
  · rename_i i hat
    split at h
    · cases h
    · injection h with h
      subst h
      rw [balOf_bump hat]

/-- What an entry makes of the balance of x. -/
def netE (x : Int) (e : Ent) : Int := (if x = e.to then e.amount else 0) - (if x = e.frm then e.amount else 0)
def netL (x : Int) : List Ent → Int
  | [] => 0
  | e :: l => netE x e + netL x l
theorem addM_bal {credit : Int} {l m : List SubA} {last e : Ent} {x : Int} (h : addM credit l last e = .ok m) (hx : (atS l x).isSome = true) : balOf m x = balOf l x + netE x e := by
  obtain ⟨_, l1, h1, h2⟩ := addM_parts h
  have e1 := takeM_bal (x := x) h1 (fun _ => hx)
  have e2 := giveM_bal (x := x) h2 (fun _ => by rw [atS_ids x (takeM_ids h1)]; exact hx)
  rw [e2, e1]
  unfold netE
  omega
theorem untilM_bal {credit x : Int} : ∀ {es : List Ent} {l m : List SubA} {last : Ent}, untilM credit 36000 es l last = .ok m → daysM es = true → (atS l x).isSome = true → balOf m x = balOf l x + netL x es
  | [], l, m, _, h, _, _ => by injection h with h; rw [h]; simp [netL]
  | e :: es, l, m, last, h, hd, hx => by
    simp only [daysM, List.all_cons, Bool.and_eq_true] at hd
    have hy := (inB_true.1 hd.1).2
    unfold untilM at h
    rw [if_neg (by omega)] at h
    split at h
    · cases h
    · rename_i l' hl
      have h1 := addM_bal (x := x) hl hx
      have ih := untilM_bal (x := x) h hd.2 (by rw [atS_ids x (addM_ids hl)]; exact hx)
      rw [ih, h1]
      simp only [netL]
      omega

theorem netL_set (x : Int) : ∀ (l : List Ent) (i : Nat) (h : i < l.length) (e : Ent), netL x (l.set i e) = netL x l - netE x l[i] + netE x e
  | [], _, h, _ => by simp at h
  | y :: l, 0, _, e => by simp only [List.set_cons_zero, netL, List.getElem_cons_zero]; omega
  | y :: l, i + 1, h, e => by
    have ih := netL_set x l i (by simpa using h) e
    simp only [List.set_cons_succ, netL, List.getElem_cons_succ, ih]
    omega

theorem bent_balance {a : Acc} (h : checkM a = 0) (i : Nat) (hi : i < a.subs.length) (d : Int) (hd : d ≠ 0) : checkM { a with subs := bump a.subs i d } = 62 := by
  obtain ⟨h1, h2, h3, h4, h5⟩ := checkM_zero.1 h
  have hp : plainM { a with subs := bump a.subs i d } = true := by
    unfold plainM at h3 ⊢
    rw [idsM_of_ids (bump_ids a.subs i d)]
    exact h3
  unfold checkM
  simp only
  rw [if_neg (by rw [bump_len]; omega), hp, h4, emptyM_of_ids (bump_ids a.subs i d), h5]
  simp only [Bool.true_eq_false, if_false]
  rw [if_neg]
  rw [sameL_eq]
  intro e
  have := congrArg (fun l => (subAt l i).bal) e
  simp only [bump_at _ _ _ _ hi, if_pos] at this
  omega

/-- Each entry of a right account has two different places, each of them outside or one of the sub-accounts. -/
theorem untilM_ends {credit : Int} : ∀ {es : List Ent} {l m : List SubA} {last : Ent}, untilM credit 36000 es l last = .ok m → daysM es = true → ∀ e ∈ es, e.frm ≠ e.to ∧ (e.frm = 0 ∨ (atS l e.frm).isSome = true) ∧ (e.to = 0 ∨ (atS l e.to).isSome = true)
  | [], _, _, _, _, _, _, he => by cases he
  | x :: es, l, m, last, h, hd, e, he => by
    simp only [daysM, List.all_cons, Bool.and_eq_true] at hd
    have hy := (inB_true.1 hd.1).2
    unfold untilM at h
    rw [if_neg (by omega)] at h
    split at h
    · cases h
    · rename_i l' hl
      have hf := faultE_zero (addM_parts hl).1
      rcases List.mem_cons.1 he with rfl | he
      · exact ⟨hf.2.2.2.2.2.1, hf.2.2.2.2.2.2.1, hf.2.2.2.2.2.2.2⟩
      · have ih := untilM_ends h hd.2 e he
        rw [atS_ids _ (addM_ids hl), atS_ids _ (addM_ids hl)] at ih
        exact ih

theorem emptyM_at (l : List SubA) (x : Int) : atS (emptyM l) x = atS l x := atS_ids x (emptyM_ids l)

theorem bent_amount {a : Acc} (h : checkM a = 0) (i : Nat) (hi : i < a.ents.length) (d : Int) (hd : d ≠ 0) : checkM { a with ents := a.ents.set i { a.ents[i] with amount := a.ents[i].amount + d } } = 62 := by
  obtain ⟨h1, h2, h3, h4, h5⟩ := checkM_zero.1 h
  have hdays : daysM (a.ents.set i { a.ents[i] with amount := a.ents[i].amount + d }) = true := by
    unfold daysM at h4 ⊢
    rw [List.all_eq_true] at h4 ⊢
    intro e he
    rcases List.mem_or_eq_of_mem_set he with he | rfl
    · exact h4 e he
    · exact h4 a.ents[i] (List.getElem_mem hi)
  unfold checkM
  simp only
  rw [if_neg (by simp; omega), show plainM { a with ents := a.ents.set i { a.ents[i] with amount := a.ents[i].amount + d } } = plainM a from rfl, h3, hdays]
  simp only [Bool.true_eq_false, if_false]
  cases hu : untilM a.credit 36000 (a.ents.set i { a.ents[i] with amount := a.ents[i].amount + d }) (emptyM a.subs) Ent.zero with
  | error c => rfl
  | ok m =>
    simp only
    rw [if_neg]
    rw [sameL_eq]
    rintro rfl
    obtain ⟨hne, hs1, hs2⟩ := untilM_ends h5 h4 _ (List.getElem_mem hi)
    obtain ⟨x, hx, hnet⟩ : ∃ x, (atS (emptyM a.subs) x).isSome = true ∧ netE x { a.ents[i] with amount := a.ents[i].amount + d } ≠ netE x a.ents[i] := by
      rcases hs1 with h0 | h0
      · rcases hs2 with h0' | h0'
        · exact absurd (h0.trans h0'.symm) hne
        · refine ⟨_, h0', ?_⟩
          unfold netE
          simp only [if_pos, if_neg (Ne.symm hne)]
          omega
      · refine ⟨_, h0, ?_⟩
        unfold netE
        simp only [if_pos, if_neg hne]
        omega
    have e1 := untilM_bal (x := x) h5 h4 hx
    have e2 := untilM_bal (x := x) hu hdays hx
    rw [netL_set x a.ents i hi] at e2
    omega

end Go.Proofs.Ytoelidndnajedab
