/- The single account, as mathematics: entries on top of others, what they make of balances, right accounts; of no function of the program; no condition. -/
import Derived.Test.YtoelidndnajedaaBase
namespace Go.Proofs.Ytoelidndnajedaa
open Go.RowKit Go.Lib Go.Proofs

structure Ent where
  number : Int
  day : Int
  frm : Int
  to : Int
  amount : Int
  ref : Int
structure SubA where
  id : Int
  bal : Int
structure Acc where
  credit : Int
  subs : List SubA
  ents : List Ent

def Ent.zero : Ent := ⟨0, 0, 0, 0, 0, 0⟩
def SubA.zero : SubA := ⟨0, 0⟩
def lastE (l : List Ent) : Ent := l.getLast?.getD Ent.zero

theorem lastE_snoc (l : List Ent) (e : Ent) : lastE (l ++ [e]) = e := by simp [lastE]
theorem lastE_nil : lastE [] = Ent.zero := rfl

def subAt (l : List SubA) (i : Nat) : SubA := l.getD i SubA.zero
theorem subAt_get {l : List SubA} {i : Nat} (h : i < l.length) : subAt l i = l[i] := by simp [subAt, List.getD, List.getElem?_eq_getElem h]

/-- The place of a sub-account. -/
def atS : List SubA → Int → Option Nat
  | [], _ => none
  | s :: l, id => if s.id = id then some 0 else (atS l id).map (· + 1)

theorem atS_some : ∀ {l : List SubA} {id : Int} {i : Nat}, atS l id = some i → i < l.length ∧ (subAt l i).id = id ∧ ∀ j, j < i → (subAt l j).id ≠ id
  | [], _, _, h => by simp [atS] at h
  | s :: l, id, i, h => by
    unfold atS at h
    split at h
    · rename_i hs
      obtain rfl : 0 = i := by simpa using h
      exact ⟨by simp, by simpa [subAt] using hs, fun j hj => by omega⟩
    · rename_i hs
      rw [Option.map_eq_some_iff] at h
      obtain ⟨k, hk, rfl⟩ := h
      obtain ⟨h1, h2, h3⟩ := atS_some hk
      refine ⟨by simp; omega, by simpa [subAt] using h2, fun j hj => ?_⟩
      cases j with
      | zero => simpa [subAt] using hs
      | succ j => have := h3 j (by omega); simpa [subAt] using this
theorem atS_none : ∀ {l : List SubA} {id : Int}, atS l id = none ↔ ∀ s ∈ l, s.id ≠ id
  | [], _ => by simp [atS]
  | s :: l, id => by
    unfold atS
    by_cases hs : s.id = id
    · simp [hs]
    · simp [hs, atS_none (l := l)]
theorem atS_mk {l : List SubA} {id : Int} {i : Nat} (h1 : i < l.length) (h2 : (subAt l i).id = id) (h3 : ∀ j, j < i → (subAt l j).id ≠ id) : atS l id = some i := by
  cases h : atS l id with
  | none =>
    have := atS_none.1 h l[i] (List.getElem_mem h1)
    rw [subAt_get h1] at h2
    exact absurd h2 this
  | some k =>
    obtain ⟨k1, k2, k3⟩ := atS_some h
    rcases Nat.lt_trichotomy i k with hl | he | hg
    · exact absurd h2 (k3 i hl)
    · rw [he]
    · exact absurd k2 (h3 k hg)

/-- The place as the reference hands it back. -/
def atI (l : List SubA) (id : Int) : Int := match atS l id with
  | some i => (i : Int)
  | none => -1

/-- A sub-account with another balance. -/
def bump (l : List SubA) (i : Nat) (d : Int) : List SubA := l.set i ⟨(subAt l i).id, (subAt l i).bal + d⟩
theorem bump_len (l : List SubA) (i : Nat) (d : Int) : (bump l i d).length = l.length := by simp [bump]
theorem bump_at (l : List SubA) (i : Nat) (d : Int) (j : Nat) (hj : j < l.length) : subAt (bump l i d) j = if j = i then ⟨(subAt l i).id, (subAt l i).bal + d⟩ else subAt l j := by
  rw [subAt_get (by rw [bump_len]; exact hj)]
  unfold bump
  rw [List.getElem_set]
  by_cases h : i = j
  · rw [if_pos h, if_pos h.symm]
  · rw [if_neg h, if_neg (fun e => h e.symm), subAt_get hj]
theorem bump_id (l : List SubA) (i : Nat) (d : Int) (j : Nat) : (subAt (bump l i d) j).id = (subAt l j).id := by
  by_cases hj : j < l.length
  · rw [bump_at l i d j hj]
    split
    · rename_i h; rw [h]
    · rfl
  · have h1 : subAt (bump l i d) j = SubA.zero := by unfold subAt; rw [List.getD_eq_getElem?_getD, List.getElem?_eq_none (by rw [bump_len]; omega)]; rfl
    have h2 : subAt l j = SubA.zero := by unfold subAt; rw [List.getD_eq_getElem?_getD, List.getElem?_eq_none (by omega)]; rfl
    rw [h1, h2]
theorem bump_ids (l : List SubA) (i : Nat) (d : Int) : (bump l i d).map SubA.id = l.map SubA.id := by
  apply List.ext_getElem (by simp [bump_len])
  intro j h1 h2
  simp only [List.length_map] at h1 h2
  rw [List.getElem_map, List.getElem_map, ← subAt_get h1, ← subAt_get h2, bump_id]
theorem atS_ids : ∀ {l m : List SubA} (id : Int), l.map SubA.id = m.map SubA.id → atS l id = atS m id
  | [], [], _, _ => rfl
  | [], _ :: _, _, h => by simp at h
  | _ :: _, [], _, h => by simp at h
  | s :: l, t :: m, id, h => by
    simp only [List.map_cons, List.cons.injEq] at h
    unfold atS
    rw [h.1, atS_ids id h.2]

def dayB' (n : Int) : Bool := inB n 0 36000
def amtB (n : Int) : Bool := inB n 0 1000000000000

/-- What an entry takes out of a sub-account; none if the balance would be too low. -/
def takeM (credit : Int) (l : List SubA) (id amount : Int) : Option (List SubA) := match atS l id with
  | none => some l
  | some i => if (subAt l i).bal - amount < 0 ∧ ((subAt l i).id ≠ 1 ∨ (subAt l i).bal - amount < -credit) then none else some (bump l i (-amount))
/-- What it brings into one; none if the balance would be too high. -/
def giveM (l : List SubA) (id amount : Int) : Option (List SubA) := match atS l id with
  | none => some l
  | some i => if 1000000000000000 < (subAt l i).bal + amount then none else some (bump l i amount)

/-- The first thing that is wrong with an entry on top of another one, but for the balances. -/
def faultE (l : List SubA) (last e : Ent) : Int :=
  if e.number ≠ last.number + 1 then 65
  else if e.day < last.day ∨ dayB' e.day = false then 8
  else if amtB e.amount = false ∨ e.amount = 0 ∨ e.ref < 0 ∨ 1000000 < e.ref then 2
  else if e.frm = e.to ∨ (e.frm ≠ 0 ∧ atS l e.frm = none) ∨ (e.to ≠ 0 ∧ atS l e.to = none) then 60
  else 0

/-- The balances behind one more entry, or the error. -/
def addM (credit : Int) (l : List SubA) (last e : Ent) : Except Int (List SubA) :=
  if faultE l last e = 0 then
    match takeM credit l e.frm e.amount with
    | none => .error 61
    | some l1 => match giveM l1 e.to e.amount with
      | none => .error 61
      | some l2 => .ok l2
  else .error (faultE l last e)

def emptyM (l : List SubA) : List SubA := l.map fun s => ⟨s.id, 0⟩

/-- The balances that entries make up to a day. -/
def untilM (credit day : Int) : List Ent → List SubA → Ent → Except Int (List SubA)
  | [], l, _ => .ok l
  | e :: es, l, last => if day < e.day then .ok l else match addM credit l last e with
    | .error c => .error c
    | .ok l' => untilM credit day es l' e

/-- IDs ascend strictly from 1, up to 1000. -/
def idsM (l : List SubA) : Bool := decide (1 ≤ l.length ∧ (subAt l 0).id = 1 ∧ (∀ i, i < l.length → 1 ≤ (subAt l i).id ∧ (subAt l i).id ≤ 1000) ∧ ∀ i, i < l.length → 0 < i → (subAt l (i - 1)).id < (subAt l i).id)
def plainM (a : Acc) : Bool := amtB a.credit && idsM a.subs
def daysM (l : List Ent) : Bool := l.all fun e => dayB' e.day

def sameL : List SubA → List SubA → Bool
  | [], [] => true
  | s :: l, t :: m => (decide (s.id = t.id) && decide (s.bal = t.bal)) && sameL l m
  | _, _ => false
theorem sameL_eq : ∀ {l m : List SubA}, sameL l m = true ↔ l = m
  | [], [] => by simp [sameL]
  | [], _ :: _ => by simp [sameL]
  | _ :: _, [] => by simp [sameL]
  | ⟨i, b⟩ :: l, ⟨j, c⟩ :: m => by simp [sameL, sameL_eq (l := l) (m := m)]

def checkM (a : Acc) : Int :=
  if 20 < a.subs.length ∨ 400 < a.ents.length then 3
  else if plainM a = false then 62
  else if daysM a.ents = false then 62
  else match untilM a.credit 36000 a.ents (emptyM a.subs) Ent.zero with
    | .error _ => 62
    | .ok l => if sameL l a.subs = true then 0 else 62

def postM (a : Acc) (e : Ent) : Except Int Acc :=
  if checkM a ≠ 0 then .error (checkM a)
  else if a.ents.length = 400 then .error 3
  else match addM a.credit a.subs (lastE a.ents) e with
    | .error c => .error c
    | .ok l => .ok { a with subs := l, ents := a.ents ++ [e] }

def nextM (l : List Ent) (day frm to amount ref : Int) : Ent := ⟨(lastE l).number + 1, day, frm, to, amount, ref⟩

def sumM (l : List SubA) : Int := (l.map SubA.bal).sum
def totalM (a : Acc) : Int := if checkM a = 0 then sumM a.subs else 0
def balanceM (a : Acc) (id : Int) : Int × Bool := if checkM a = 0 then (match atS a.subs id with
  | some i => ((subAt a.subs i).bal, true)
  | none => (0, false)) else (0, false)

/-! ### Entries on top of entries -/
theorem takeM_ids {credit : Int} {l m : List SubA} {id amount : Int} (h : takeM credit l id amount = some m) : m.map SubA.id = l.map SubA.id := by
  unfold takeM at h
  split at h
  · injection h with h; rw [h]
  · split at h
    · cases h
    · injection h with h; rw [← h, bump_ids]
theorem giveM_ids {l m : List SubA} {id amount : Int} (h : giveM l id amount = some m) : m.map SubA.id = l.map SubA.id := by
  unfold giveM at h
  split at h
  · injection h with h; rw [h]
  · split at h
    · cases h
    · injection h with h; rw [← h, bump_ids]
theorem addM_parts {credit : Int} {l m : List SubA} {last e : Ent} (h : addM credit l last e = .ok m) : faultE l last e = 0 ∧ ∃ l1, takeM credit l e.frm e.amount = some l1 ∧ giveM l1 e.to e.amount = some m := by
  unfold addM at h
  split at h
  · rename_i hf
    refine ⟨hf, ?_⟩
    split at h
    · cases h
    · rename_i l1 h1
      split at h
      · cases h
      · rename_i l2 h2
        injection h with h
        exact ⟨l1, h1, by rw [h2, h]⟩
  · cases h
theorem addM_ids {credit : Int} {l m : List SubA} {last e : Ent} (h : addM credit l last e = .ok m) : m.map SubA.id = l.map SubA.id := by
  obtain ⟨_, l1, h1, h2⟩ := addM_parts h
  rw [giveM_ids h2, takeM_ids h1]
theorem faultE_zero {l : List SubA} {last e : Ent} (h : faultE l last e = 0) : e.number = last.number + 1 ∧ last.day ≤ e.day ∧ (0 ≤ e.day ∧ e.day ≤ 36000) ∧ (1 ≤ e.amount ∧ e.amount ≤ 1000000000000) ∧ (0 ≤ e.ref ∧ e.ref ≤ 1000000) ∧ e.frm ≠ e.to ∧ (e.frm = 0 ∨ (atS l e.frm).isSome = true) ∧ (e.to = 0 ∨ (atS l e.to).isSome = true) := by
  unfold faultE at h
  split at h
  · cases h
  · rename_i h1
    split at h
    · cases h
    · rename_i h2
      split at h
      · cases h
      · rename_i h3
        split at h
        · cases h
        · rename_i h4
          have hd : dayB' e.day = true := by
            cases hb : dayB' e.day with
            | true => rfl
            | false => exact absurd (Or.inr hb) h2
          have ha : amtB e.amount = true := by
            cases hb : amtB e.amount with
            | true => rfl
            | false => exact absurd (Or.inl hb) h3
          have hd' := inB_true.1 hd
          have ha' := inB_true.1 ha
          have key : ∀ id, ¬ (id ≠ 0 ∧ atS l id = none) → id = 0 ∨ (atS l id).isSome = true := fun id hn => by
            by_cases h0 : id = 0
            · exact Or.inl h0
            · refine Or.inr ?_
              cases hs : atS l id with
              | none => exact absurd ⟨h0, hs⟩ hn
              | some _ => rfl
          refine ⟨by omega, by omega, by omega, by omega, by omega, fun hh => h4 (Or.inl hh), key _ fun hh => h4 (Or.inr (Or.inl hh)), key _ fun hh => h4 (Or.inr (Or.inr hh))⟩

theorem untilM_snoc (credit : Int) (e : Ent) : ∀ (es : List Ent) (l : List SubA) (last : Ent), daysM es = true → untilM credit 36000 (es ++ [e]) l last = match untilM credit 36000 es l last with
    | .error c => .error c
    | .ok m => if 36000 < e.day then .ok m else addM credit m ((es.getLast?).getD last) e
  | [], l, last, _ => by
    simp only [List.nil_append, untilM, List.getLast?_nil, Option.getD_none]
    split
    · rfl
    · cases addM credit l last e <;> rfl
  | x :: es, l, last, h => by
    simp only [daysM, List.all_cons, Bool.and_eq_true] at h
    have hx := (inB_true.1 h.1).2
    simp only [List.cons_append, untilM, if_neg (show ¬ (36000 : Int) < x.day by omega)]
    cases hadd : addM credit l last x with
    | error c => rfl
    | ok m =>
      simp only
      rw [untilM_snoc credit e es m x h.2]
      cases hu : untilM credit 36000 es m x with
      | error c => rfl
      | ok m2 =>
        simp only
        congr 2
        cases es with
        | nil => simp
        | cons y ys => simp [List.getLast?_cons]

theorem untilM_ids (credit day : Int) : ∀ (es : List Ent) (l m : List SubA) (last : Ent), untilM credit day es l last = .ok m → m.map SubA.id = l.map SubA.id
  | [], l, m, _, h => by injection h with h; rw [h]
  | e :: es, l, m, last, h => by
    unfold untilM at h
    split at h
    · injection h with h; rw [h]
    · split at h
      · cases h
      · rename_i l' hl
        rw [untilM_ids credit day es l' m e h, addM_ids hl]

theorem emptyM_ids (l : List SubA) : (emptyM l).map SubA.id = l.map SubA.id := by simp [emptyM, Function.comp_def]
theorem emptyM_of_ids : ∀ {l m : List SubA}, l.map SubA.id = m.map SubA.id → emptyM l = emptyM m
  | [], [], _ => rfl
  | [], _ :: _, h => by simp at h
  | _ :: _, [], h => by simp at h
  | s :: l, t :: m, h => by
    simp only [List.map_cons, List.cons.injEq] at h
    show ⟨s.id, 0⟩ :: emptyM l = ⟨t.id, 0⟩ :: emptyM m
    rw [h.1, emptyM_of_ids h.2]
theorem len_of_ids {l m : List SubA} (h : l.map SubA.id = m.map SubA.id) : l.length = m.length := by have := congrArg List.length h; simpa using this
theorem subAt_of_ids {l m : List SubA} (h : l.map SubA.id = m.map SubA.id) (i : Nat) : (subAt l i).id = (subAt m i).id := by
  have hl := len_of_ids h
  by_cases hi : i < l.length
  · rw [subAt_get hi, subAt_get (by omega)]
    have := congrArg (fun x => x[i]?) h
    simp only [List.getElem?_map] at this
    rw [List.getElem?_eq_getElem hi, List.getElem?_eq_getElem (by omega)] at this
    simpa using this
  · unfold subAt
    rw [List.getD_eq_getElem?_getD, List.getD_eq_getElem?_getD, List.getElem?_eq_none (by omega), List.getElem?_eq_none (by omega)]
theorem idsM_of_ids {l m : List SubA} (h : l.map SubA.id = m.map SubA.id) : idsM l = idsM m := by
  unfold idsM
  simp only [len_of_ids h, subAt_of_ids h]

/-- What Check says of a right account. -/
theorem checkM_zero {a : Acc} : checkM a = 0 ↔ a.subs.length ≤ 20 ∧ a.ents.length ≤ 400 ∧ plainM a = true ∧ daysM a.ents = true ∧ untilM a.credit 36000 a.ents (emptyM a.subs) Ent.zero = .ok a.subs := by
  unfold checkM
  constructor
  · intro h
    split at h
    · cases h
    · rename_i h1
      split at h
      · cases h
      · rename_i h2
        split at h
        · cases h
        · rename_i h3
          split at h
          · cases h
          · rename_i l hu
            split at h
            · rename_i hs
              rw [sameL_eq] at hs
              exact ⟨by omega, by omega, by simpa using h2, by simpa using h3, by rw [hu, hs]⟩
            · cases h
  · rintro ⟨h1, h2, h3, h4, h5⟩
    rw [if_neg (by omega), h3, h4, h5]
    simp [sameL_eq]

/-- A right account is right behind an entry. -/
theorem postM_right {a b : Acc} {e : Ent} (h : postM a e = .ok b) : checkM a = 0 ∧ checkM b = 0 ∧ b.ents = a.ents ++ [e] ∧ b.credit = a.credit ∧ a.ents.length < 400 ∧ addM a.credit a.subs (lastE a.ents) e = .ok b.subs := by
  unfold postM at h
  split at h
  · cases h
  · rename_i h0
    have hc : checkM a = 0 := by simpa using h0
    split at h
    · cases h
    · rename_i hlen
      split at h
      · cases h
      · rename_i l hl
        injection h with h
        subst h
        have hz := checkM_zero.1 hc
        obtain ⟨z1, z2, z3, z4, z5⟩ := hz
        have hids := addM_ids hl
        obtain ⟨hf, _⟩ := addM_parts hl
        have hf' := faultE_zero hf
        refine ⟨hc, checkM_zero.2 ⟨?_, ?_, ?_, ?_, ?_⟩, rfl, rfl, by omega, hl⟩
        · rw [len_of_ids hids]; exact z1
        · simp; omega
        · unfold plainM at z3 ⊢
          rw [idsM_of_ids hids]
          exact z3
        · unfold daysM at z4 ⊢
          rw [List.all_append, z4]
          simp only [List.all_cons, List.all_nil, Bool.and_true, Bool.true_and]
          exact inB_true.2 hf'.2.2.1
        · rw [emptyM_of_ids hids, untilM_snoc _ _ _ _ _ z4, z5]
          simp only
          rw [if_neg (by omega)]
          exact hl

end Go.Proofs.Ytoelidndnajedaa
