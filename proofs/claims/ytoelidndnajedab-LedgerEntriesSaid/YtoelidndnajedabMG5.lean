/- Texts of one claim, merged: AcM, AcW, AcS, AcK. -/
import Derived.Test.YtoelidndnajedabMG1
/- The single account, as mathematics: entries on top of others, what they make of balances, right accounts; of no function of the program; no condition. -/
set_option linter.unusedSimpArgs false
set_option linter.unusedVariables false
namespace Go.Proofs.Ytoelidndnajedab
open Go.RowKit Go.Lib Go.Proofs

structure Ent where
  number : Int
  day : Int
  frm : Int
  to : Int
  amount : Int
  ref : Int
structure SubA where
  id : Int
  bal : Int
structure Acc where
  credit : Int
  subs : List SubA
  ents : List Ent

def Ent.zero : Ent := ⟨0, 0, 0, 0, 0, 0⟩
def SubA.zero : SubA := ⟨0, 0⟩
def lastE (l : List Ent) : Ent := l.getLast?.getD Ent.zero

theorem lastE_snoc (l : List Ent) (e : Ent) : lastE (l ++ [e]) = e := by simp [lastE]
theorem lastE_nil : lastE [] = Ent.zero := rfl

def subAt (l : List SubA) (i : Nat) : SubA := l.getD i SubA.zero
theorem subAt_get {l : List SubA} {i : Nat} (h : i < l.length) : subAt l i = l[i] := by simp [subAt, List.getD, List.getElem?_eq_getElem h]

/-- The place of a sub-account. -/
def atS : List SubA → Int → Option Nat
  | [], _ => none
  | s :: l, id => if s.id = id then some 0 else (atS l id).map (· + 1)

theorem atS_some : ∀ {l : List SubA} {id : Int} {i : Nat}, atS l id = some i → i < l.length ∧ (subAt l i).id = id ∧ ∀ j, j < i → (subAt l j).id ≠ id
  | [], _, _, h => by simp [atS] at h
  | s :: l, id, i, h => by
    unfold atS at h
    split at h
    · rename_i hs
      obtain rfl : 0 = i := by simpa using h
      exact ⟨by simp, by simpa [subAt] using hs, fun j hj => by omega⟩
    · rename_i hs
      rw [Option.map_eq_some_iff] at h
      obtain ⟨k, hk, rfl⟩ := h
      obtain ⟨h1, h2, h3⟩ := atS_some hk
      refine ⟨by simp; omega, by simpa [subAt] using h2, fun j hj => ?_⟩
      cases j with
      | zero => simpa [subAt] using hs
      | succ j => have := h3 j (by omega); simpa [subAt] using this
theorem atS_none : ∀ {l : List SubA} {id : Int}, atS l id = none ↔ ∀ s ∈ l, s.id ≠ id
  | [], _ => by simp [atS]
  | s :: l, id => by
    unfold atS
    by_cases hs : s.id = id
    · simp [hs]
    · simp [hs, atS_none (l := l)]
theorem atS_mk {l : List SubA} {id : Int} {i : Nat} (h1 : i < l.length) (h2 : (subAt l i).id = id) (h3 : ∀ j, j < i → (subAt l j).id ≠ id) : atS l id = some i := by
  cases h : atS l id with
  | none =>
    have := atS_none.1 h l[i] (List.getElem_mem h1)
    rw [subAt_get h1] at h2
    exact absurd h2 this
  | some k =>
    obtain ⟨k1, k2, k3⟩ := atS_some h
    rcases Nat.lt_trichotomy i k with hl | he | hg
    · exact absurd h2 (k3 i hl)
    · rw [he]
    · exact absurd k2 (h3 k hg)

/-- The place as the reference hands it back. -/
def atI (l : List SubA) (id : Int) : Int := match atS l id with
  | some i => (i : Int)
  | none => -1

/-- A sub-account with another balance. -/
def bump (l : List SubA) (i : Nat) (d : Int) : List SubA := l.set i ⟨(subAt l i).id, (subAt l i).bal + d⟩
theorem bump_len (l : List SubA) (i : Nat) (d : Int) : (bump l i d).length = l.length := by simp [bump]
theorem bump_at (l : List SubA) (i : Nat) (d : Int) (j : Nat) (hj : j < l.length) : subAt (bump l i d) j = if j = i then ⟨(subAt l i).id, (subAt l i).bal + d⟩ else subAt l j := by
  rw [subAt_get (by rw [bump_len]; exact hj)]
  unfold bump
  rw [List.getElem_set]
  by_cases h : i = j
  · rw [if_pos h, if_pos h.symm]
  · rw [if_neg h, if_neg (fun e => h e.symm), subAt_get hj]
theorem bump_id (l : List SubA) (i : Nat) (d : Int) (j : Nat) : (subAt (bump l i d) j).id = (subAt l j).id := by
  by_cases hj : j < l.length
  · rw [bump_at l i d j hj]
    split
    · rename_i h; rw [h]
    · rfl
  · have h1 : subAt (bump l i d) j = SubA.zero := by unfold subAt; rw [List.getD_eq_getElem?_getD, List.getElem?_eq_none (by rw [bump_len]; omega)]; rfl
    have h2 : subAt l j = SubA.zero := by unfold subAt; rw [List.getD_eq_getElem?_getD, List.getElem?_eq_none (by omega)]; rfl
    rw [h1, h2]
theorem bump_ids (l : List SubA) (i : Nat) (d : Int) : (bump l i d).map SubA.id = l.map SubA.id := by
  apply List.ext_getElem (by simp [bump_len])
  intro j h1 h2
  simp only [List.length_map] at h1 h2
  rw [List.getElem_map, List.getElem_map, ← subAt_get h1, ← subAt_get h2, bump_id]
theorem atS_ids : ∀ {l m : List SubA} (id : Int), l.map SubA.id = m.map SubA.id → atS l id = atS m id
  | [], [], _, _ => rfl
  | [], _ :: _, _, h => by simp at h
  | _ :: _, [], _, h => by simp at h
  | s :: l, t :: m, id, h => by
    simp only [List.map_cons, List.cons.injEq] at h
    unfold atS
    rw [h.1, atS_ids id h.2]

def dayB' (n : Int) : Bool := inB n 0 36000
def amtB (n : Int) : Bool := inB n 0 1000000000000

/-- What an entry takes out of a sub-account; none if the balance would be too low. -/
def takeM (credit : Int) (l : List SubA) (id amount : Int) : Option (List SubA) := match atS l id with
  | none => some l
  | some i => if (subAt l i).bal - amount < 0 ∧ ((subAt l i).id ≠ 1 ∨ (subAt l i).bal - amount < -credit) then none else some (bump l i (-amount))
/-- What it brings into one; none if the balance would be too high. -/
def giveM (l : List SubA) (id amount : Int) : Option (List SubA) := match atS l id with
  | none => some l
  | some i => if 1000000000000000 < (subAt l i).bal + amount then none else some (bump l i amount)

/-- The first thing that is wrong with an entry on top of another one, but for the balances. -/
def faultE (l : List SubA) (last e : Ent) : Int :=
  if e.number ≠ last.number + 1 then 65
  else if e.day < last.day ∨ dayB' e.day = false then 8
  else if amtB e.amount = false ∨ e.amount = 0 ∨ e.ref < 0 ∨ 1000000 < e.ref then 2
  else if e.frm = e.to ∨ (e.frm ≠ 0 ∧ atS l e.frm = none) ∨ (e.to ≠ 0 ∧ atS l e.to = none) then 60
  else 0

/-- The balances behind one more entry, or the error. -/
def addM (credit : Int) (l : List SubA) (last e : Ent) : Except Int (List SubA) :=
  if faultE l last e = 0 then
    match takeM credit l e.frm e.amount with
    | none => .error 61
    | some l1 => match giveM l1 e.to e.amount with
      | none => .error 61
      | some l2 => .ok l2
  else .error (faultE l last e)

def emptyM (l : List SubA) : List SubA := l.map fun s => ⟨s.id, 0⟩

/-- The balances that entries make up to a day. -/
def untilM (credit day : Int) : List Ent → List SubA → Ent → Except Int (List SubA)
  | [], l, _ => .ok l
  | e :: es, l, last => if day < e.day then .ok l else match addM credit l last e with
    | .error c => .error c
    | .ok l' => untilM credit day es l' e

/-- IDs ascend strictly from 1, up to 1000. -/
def idsM (l : List SubA) : Bool := decide (1 ≤ l.length ∧ (subAt l 0).id = 1 ∧ (∀ i, i < l.length → 1 ≤ (subAt l i).id ∧ (subAt l i).id ≤ 1000) ∧ ∀ i, i < l.length → 0 < i → (subAt l (i - 1)).id < (subAt l i).id)
def plainM (a : Acc) : Bool := amtB a.credit && idsM a.subs
def daysM (l : List Ent) : Bool := l.all fun e => dayB' e.day

def sameL : List SubA → List SubA → Bool
  | [], [] => true
  | s :: l, t :: m => (decide (s.id = t.id) && decide (s.bal = t.bal)) && sameL l m
  | _, _ => false
theorem sameL_eq : ∀ {l m : List SubA}, sameL l m = true ↔ l = m
  | [], [] => by simp [sameL]
  | [], _ :: _ => by simp [sameL]
  | _ :: _, [] => by simp [sameL]
  | ⟨i, b⟩ :: l, ⟨j, c⟩ :: m => by simp [sameL, sameL_eq (l := l) (m := m)]

def checkM (a : Acc) : Int :=
  if 20 < a.subs.length ∨ 400 < a.ents.length then 3
  else if plainM a = false then 62
  else if daysM a.ents = false then 62
  else match untilM a.credit 36000 a.ents (emptyM a.subs) Ent.zero with
    | .error _ => 62
    | .ok l => if sameL l a.subs = true then 0 else 62

def postM (a : Acc) (e : Ent) : Except Int Acc :=
  if checkM a ≠ 0 then .error (checkM a)
  else if a.ents.length = 400 then .error 3
  else match addM a.credit a.subs (lastE a.ents) e with
    | .error c => .error c
    | .ok l => .ok { a with subs := l, ents := a.ents ++ [e] }

def nextM (l : List Ent) (day frm to amount ref : Int) : Ent := ⟨(lastE l).number + 1, day, frm, to, amount, ref⟩

def sumM (l : List SubA) : Int := (l.map SubA.bal).sum
def totalM (a : Acc) : Int := if checkM a = 0 then sumM a.subs else 0
def balanceM (a : Acc) (id : Int) : Int × Bool := if checkM a = 0 then (match atS a.subs id with
  | some i => ((subAt a.subs i).bal, true)
  | none => (0, false)) else (0, false)

/-! ### Entries on top of entries -/
theorem takeM_ids {credit : Int} {l m : List SubA} {id amount : Int} (h : takeM credit l id amount = some m) : m.map SubA.id = l.map SubA.id := by
  unfold takeM at h
  split at h
  · injection h with h; rw [h]
  · split at h
    · cases h
    · injection h with h; rw [← h, bump_ids]
theorem giveM_ids {l m : List SubA} {id amount : Int} (h : giveM l id amount = some m) : m.map SubA.id = l.map SubA.id := by
  unfold giveM at h
  split at h
  · injection h with h; rw [h]
  · split at h
    · cases h
    · injection h with h; rw [← h, bump_ids]
theorem addM_parts {credit : Int} {l m : List SubA} {last e : Ent} (h : addM credit l last e = .ok m) : faultE l last e = 0 ∧ ∃ l1, takeM credit l e.frm e.amount = some l1 ∧ giveM l1 e.to e.amount = some m := by
  unfold addM at h
  split at h
  · rename_i hf
    refine ⟨hf, ?_⟩
    split at h
    · cases h
    · rename_i l1 h1
      split at h
      · cases h
      · rename_i l2 h2
        injection h with h
        exact ⟨l1, h1, by rw [h2, h]⟩
  · cases h
theorem addM_ids {credit : Int} {l m : List SubA} {last e : Ent} (h : addM credit l last e = .ok m) : m.map SubA.id = l.map SubA.id := by
  obtain ⟨_, l1, h1, h2⟩ := addM_parts h
  rw [giveM_ids h2, takeM_ids h1]
theorem faultE_zero {l : List SubA} {last e : Ent} (h : faultE l last e = 0) : e.number = last.number + 1 ∧ last.day ≤ e.day ∧ (0 ≤ e.day ∧ e.day ≤ 36000) ∧ (1 ≤ e.amount ∧ e.amount ≤ 1000000000000) ∧ (0 ≤ e.ref ∧ e.ref ≤ 1000000) ∧ e.frm ≠ e.to ∧ (e.frm = 0 ∨ (atS l e.frm).isSome = true) ∧ (e.to = 0 ∨ (atS l e.to).isSome = true) := by
  unfold faultE at h
  split at h
  · cases h
  · rename_i h1
    split at h
    · cases h
    · rename_i h2
      split at h
      · cases h
      · rename_i h3
        split at h
        · cases h
        · rename_i h4
          have hd : dayB' e.day = true := by
            cases hb : dayB' e.day with
            | true => rfl
            | false => exact absurd (Or.inr hb) h2
          have ha : amtB e.amount = true := by
            cases hb : amtB e.amount with
            | true => rfl
            | false => exact absurd (Or.inl hb) h3
          have hd' := inB_true.1 hd
          have ha' := inB_true.1 ha
          have key : ∀ id, ¬ (id ≠ 0 ∧ atS l id = none) → id = 0 ∨ (atS l id).isSome = true := fun id hn => by
            by_cases h0 : id = 0
            · exact Or.inl h0
            · refine Or.inr ?_
              cases hs : atS l id with
              | none => exact absurd ⟨h0, hs⟩ hn
              | some _ => rfl
          refine ⟨by omega, by omega, by omega, by omega, by omega, fun hh => h4 (Or.inl hh), key _ fun hh => h4 (Or.inr (Or.inl hh)), key _ fun hh => h4 (Or.inr (Or.inr hh))⟩

theorem untilM_snoc (credit : Int) (e : Ent) : ∀ (es : List Ent) (l : List SubA) (last : Ent), daysM es = true → untilM credit 36000 (es ++ [e]) l last = match untilM credit 36000 es l last with
    | .error c => .error c
    | .ok m => if 36000 < e.day then .ok m else addM credit m ((es.getLast?).getD last) e
  | [], l, last, _ => by
    simp only [List.nil_append, untilM, List.getLast?_nil, Option.getD_none]
    split
    · rfl
    · cases addM credit l last e <;> rfl
  | x :: es, l, last, h => by
    simp only [daysM, List.all_cons, Bool.and_eq_true] at h
    have hx := (inB_true.1 h.1).2
    simp only [List.cons_append, untilM, if_neg (show ¬ (36000 : Int) < x.day by omega)]
    cases hadd : addM credit l last x with
    | error c => rfl
    | ok m =>
      simp only
      rw [untilM_snoc credit e es m x h.2]
      cases hu : untilM credit 36000 es m x with
      | error c => rfl
      | ok m2 =>
        simp only
        congr 2
        cases es with
        | nil => simp
        | cons y ys => simp [List.getLast?_cons]

theorem untilM_ids (credit day : Int) : ∀ (es : List Ent) (l m : List SubA) (last : Ent), untilM credit day es l last = .ok m → m.map SubA.id = l.map SubA.id
  | [], l, m, _, h => by injection h with h; rw [h]
  | e :: es, l, m, last, h => by
    unfold untilM at h
    split at h
    · injection h with h; rw [h]
    · split at h
      · cases h
      · rename_i l' hl
        rw [untilM_ids credit day es l' m e h, addM_ids hl]

theorem emptyM_ids (l : List SubA) : (emptyM l).map SubA.id = l.map SubA.id := by simp [emptyM, Function.comp_def]
theorem emptyM_of_ids : ∀ {l m : List SubA}, l.map SubA.id = m.map SubA.id → emptyM l = emptyM m
  | [], [], _ => rfl
  | [], _ :: _, h => by simp at h
  | _ :: _, [], h => by simp at h
  | s :: l, t :: m, h => by
    simp only [List.map_cons, List.cons.injEq] at h
    show ⟨s.id, 0⟩ :: emptyM l = ⟨t.id, 0⟩ :: emptyM m
    rw [h.1, emptyM_of_ids h.2]
theorem len_of_ids {l m : List SubA} (h : l.map SubA.id = m.map SubA.id) : l.length = m.length := by have := congrArg List.length h; simpa using this
theorem subAt_of_ids {l m : List SubA} (h : l.map SubA.id = m.map SubA.id) (i : Nat) : (subAt l i).id = (subAt m i).id := by
  have hl := len_of_ids h
  by_cases hi : i < l.length
  · rw [subAt_get hi, subAt_get (by omega)]
    have := congrArg (fun x => x[i]?) h
    simp only [List.getElem?_map] at this
    rw [List.getElem?_eq_getElem hi, List.getElem?_eq_getElem (by omega)] at this
    simpa using this
  · unfold subAt
    rw [List.getD_eq_getElem?_getD, List.getD_eq_getElem?_getD, List.getElem?_eq_none (by omega), List.getElem?_eq_none (by omega)]
theorem idsM_of_ids {l m : List SubA} (h : l.map SubA.id = m.map SubA.id) : idsM l = idsM m := by
  unfold idsM
  simp only [len_of_ids h, subAt_of_ids h]

/-- What Check says of a right account. -/
theorem checkM_zero {a : Acc} : checkM a = 0 ↔ a.subs.length ≤ 20 ∧ a.ents.length ≤ 400 ∧ plainM a = true ∧ daysM a.ents = true ∧ untilM a.credit 36000 a.ents (emptyM a.subs) Ent.zero = .ok a.subs := by
  unfold checkM
  constructor
  · intro h
    split at h
    · cases h
    · rename_i h1
      split at h
      · cases h
      · rename_i h2
        split at h
        · cases h
        · rename_i h3
          split at h
          · cases h
          · rename_i l hu
            split at h
            · rename_i hs
              rw [sameL_eq] at hs
              exact ⟨by omega, by omega, by simpa using h2, by simpa using h3, by rw [hu, hs]⟩
            · cases h
  · rintro ⟨h1, h2, h3, h4, h5⟩
    rw [if_neg (by omega), h3, h4, h5]
    simp [sameL_eq]

/-- A right account is right behind an entry. -/
theorem postM_right {a b : Acc} {e : Ent} (h : postM a e = .ok b) : checkM a = 0 ∧ checkM b = 0 ∧ b.ents = a.ents ++ [e] ∧ b.credit = a.credit ∧ a.ents.length < 400 ∧ addM a.credit a.subs (lastE a.ents) e = .ok b.subs := by
  unfold postM at h
  split at h
  · cases h
  · rename_i h0
    have hc : checkM a = 0 := by simpa using h0
    split at h
    · cases h
    · rename_i hlen
      split at h
      · cases h
      · rename_i l hl
        injection h with h
        subst h
        have hz := checkM_zero.1 hc
        obtain ⟨z1, z2, z3, z4, z5⟩ := hz
        have hids := addM_ids hl
        obtain ⟨hf, _⟩ := addM_parts hl
        have hf' := faultE_zero hf
        refine ⟨hc, checkM_zero.2 ⟨?_, ?_, ?_, ?_, ?_⟩, rfl, rfl, by omega, hl⟩
        · rw [len_of_ids hids]; exact z1
        · simp; omega
        · unfold plainM at z3 ⊢
          rw [idsM_of_ids hids]
          exact z3
        · unfold daysM at z4 ⊢
          rw [List.all_append, z4]
          simp only [List.all_cons, List.all_nil, Bool.and_true, Bool.true_and]
          exact inB_true.2 hf'.2.2.1
        · rw [emptyM_of_ids hids, untilM_snoc _ _ _ _ _ z4, z5]
          simp only
          rw [if_neg (by omega)]
          exact hl

end Go.Proofs.Ytoelidndnajedab

/- How sub-accounts, entries and accounts lie in memory; of no function of the program; no condition. -/
namespace Go.Proofs.Ytoelidndnajedab
open Go.RowKit Go.Lib Go.Proofs

def cellsU : List SubA → List Value
  | [] => []
  | s :: l => .int .i64 s.id :: .int .i64 s.bal :: cellsU l
def Ent.cells (e : Ent) : List Value := [.int .i64 e.number, .int .i64 e.day, .int .i64 e.frm, .int .i64 e.to, .int .i64 e.amount, .int .i64 e.ref]
def cellsN : List Ent → List Value
  | [] => []
  | e :: l => e.cells ++ cellsN l
def entAt (l : List Ent) (i : Nat) : Ent := l.getD i Ent.zero
theorem entAt_get {l : List Ent} {i : Nat} (h : i < l.length) : entAt l i = l[i] := by simp [entAt, List.getD, List.getElem?_eq_getElem h]

theorem cellsU_len : ∀ l : List SubA, (cellsU l).length = l.length * 2
  | [] => rfl
  | s :: l => by simp only [cellsU, List.length_cons, cellsU_len l]; omega
theorem cellsN_len : ∀ l : List Ent, (cellsN l).length = l.length * 6
  | [] => rfl
  | e :: l => by simp only [cellsN, Ent.cells, List.length_append, List.length_cons, List.length_nil, cellsN_len l]; omega
theorem cellsU_get : ∀ (l : List SubA) (i : Nat), i < l.length → (cellsU l)[i * 2]? = some (.int .i64 (subAt l i).id) ∧ (cellsU l)[i * 2 + 1]? = some (.int .i64 (subAt l i).bal)
  | [], _, h => by simp at h
  | s :: l, 0, _ => ⟨rfl, rfl⟩
  | s :: l, i + 1, h => by
    have ih := cellsU_get l i (by simpa using h)
    rw [show (i + 1) * 2 = i * 2 + 1 + 1 by omega]
    exact ih
theorem cellsN_get : ∀ (l : List Ent) (i j : Nat), i < l.length → j < 6 → (cellsN l)[i * 6 + j]? = (entAt l i).cells[j]?
  | [], _, _, h, _ => by simp at h
  | e :: l, 0, j, _, hj => by
    rw [Nat.zero_mul, Nat.zero_add]
    exact List.getElem?_append_left (by simpa [Ent.cells] using hj)
  | e :: l, i + 1, j, h, hj => by
    have ih := cellsN_get l i j (by simpa using h) hj
    rw [show (i + 1) * 6 + j = e.cells.length + (i * 6 + j) by simp [Ent.cells]; omega]
    show (e.cells ++ cellsN l)[e.cells.length + (i * 6 + j)]? = _
    rw [List.getElem?_append_right (by omega), Nat.add_sub_cancel_left, ih]
    rfl
theorem cellsU_app : ∀ l m : List SubA, cellsU (l ++ m) = cellsU l ++ cellsU m
  | [], _ => rfl
  | s :: l, m => by simp only [List.cons_append, cellsU, cellsU_app l m]
theorem cellsN_app : ∀ l m : List Ent, cellsN (l ++ m) = cellsN l ++ cellsN m
  | [], _ => rfl
  | s :: l, m => by simp only [List.cons_append, cellsN, cellsN_app l m, List.append_assoc]
theorem cellsU_set : ∀ (l : List SubA) (i : Nat) (x : Int), i < l.length → (cellsU l).set (i * 2 + 1) (.int .i64 x) = cellsU (l.set i ⟨(subAt l i).id, x⟩)
  | [], _, _, h => by simp at h
  | s :: l, 0, x, _ => rfl
  | s :: l, i + 1, x, h => by
    have ih := cellsU_set l i x (by simpa using h)
    rw [show (i + 1) * 2 + 1 = i * 2 + 1 + 1 + 1 by omega]
    simp only [cellsU, List.set_cons_succ, ih]
    rfl
theorem cellsU_one : ∀ (l : List SubA), ∀ u ∈ cellsU l, u.oneCell' = true
  | [], u, h => by simp [cellsU] at h
  | s :: l, u, h => by
    simp only [cellsU, List.mem_cons] at h
    rcases h with rfl | rfl | h
    · rfl
    · rfl
    · exact cellsU_one l u h
theorem cellsN_one : ∀ (l : List Ent), ∀ u ∈ cellsN l, u.oneCell' = true
  | [], u, h => by simp [cellsN] at h
  | s :: l, u, h => by
    simp only [cellsN, Ent.cells, List.mem_append, List.mem_cons, List.mem_nil_iff, or_false] at h
    rcases h with (rfl | rfl | rfl | rfl | rfl | rfl) | h
    iterate 6 rfl
    exact cellsN_one l u h

/-- A slice of sub-accounts, wherever it lies. -/
def SubsAt (w : World) (v : Value) (l : List SubA) : Prop := RowG w v l.length 2 (cellsU l)
/-- A slice of entries, wherever it lies. -/
def EntsAt (w : World) (v : Value) (l : List Ent) : Prop := RowG w v l.length 6 (cellsN l)
theorem SubsAt.below {w w' : World} {v : Value} {l : List SubA} (h : SubsAt w v l) (hb : Below w.heap.size w w') : SubsAt w' v l := RowG.below h hb
theorem EntsAt.below {w w' : World} {v : Value} {l : List Ent} (h : EntsAt w v l) (hb : Below w.heap.size w w') : EntsAt w' v l := RowG.below h hb

/-- A slice of sub-accounts, laid open: its parts, and what stands at each place. -/
theorem SubsAt.open {w : World} {v : Value} {l : List SubA} (h : SubsAt w v l) : (l = [] ∧ ∃ ao cap, v = .slice ao 0 cap) ∨ (0 < l.length ∧ ∃ b o cap, v = .slice (some ⟨b, o, none⟩) l.length cap ∧ l.length ≤ cap ∧ b < w.heap.size ∧ ∀ i, i < l.length → w.cell? ⟨b, o + i * 2, none⟩ = some (.int .i64 (subAt l i).id) ∧ w.cell? ⟨b, o + i * 2 + 1, none⟩ = some (.int .i64 (subAt l i).bal)) := by
  obtain ⟨_, ao, cap, rfl, hcap, hc⟩ := h
  by_cases hz : l.length = 0
  · obtain rfl := List.length_eq_zero_iff.1 hz
    exact Or.inl ⟨rfl, ao, cap, rfl⟩
  · rcases hc with hc | ⟨b, o, rfl, hb, hc⟩
    · exact absurd hc hz
    · refine Or.inr ⟨by omega, b, o, cap, rfl, hcap, hb, fun i hi => ?_⟩
      obtain ⟨g1, g2⟩ := cellsU_get l i hi
      exact ⟨(hc (i * 2) (by omega)).trans g1, (hc (i * 2 + 1) (by omega)).trans g2⟩
theorem EntsAt.open {w : World} {v : Value} {l : List Ent} (h : EntsAt w v l) : (l = [] ∧ ∃ ao cap, v = .slice ao 0 cap) ∨ (0 < l.length ∧ ∃ b o cap, v = .slice (some ⟨b, o, none⟩) l.length cap ∧ l.length ≤ cap ∧ b < w.heap.size ∧ ∀ i, i < l.length → ∀ j, j < 6 → w.cell? ⟨b, o + i * 6 + j, none⟩ = (entAt l i).cells[j]?) := by
  obtain ⟨_, ao, cap, rfl, hcap, hc⟩ := h
  by_cases hz : l.length = 0
  · obtain rfl := List.length_eq_zero_iff.1 hz
    exact Or.inl ⟨rfl, ao, cap, rfl⟩
  · rcases hc with hc | ⟨b, o, rfl, hb, hc⟩
    · exact absurd hc hz
    · refine Or.inr ⟨by omega, b, o, cap, rfl, hcap, hb, fun i hi j hj => ?_⟩
      rw [Nat.add_assoc, hc (i * 6 + j) (by omega)]
      exact cellsN_get l i j hi hj

theorem SubsAt.news {w : World} {b o n cap : Nat} {l : List SubA} (h : SubsAt w (.slice (some ⟨b, o, none⟩) n cap) l) (hn : 0 < l.length) (W : World) (hW : Below w.heap.size w W) : ∀ (j : Nat) u, (cellsU l)[j]? = some u → W.cell? ((⟨b, o, none⟩ : Addr).add j) = some u := by
  obtain ⟨_, ao, c, he, _, hc⟩ := h
  injection he with h1 h2 h3
  subst h1
  intro j u hj
  have hlt : j < l.length * 2 := by
    have := (List.getElem?_eq_some_iff.1 hj).1
    rwa [cellsU_len] at this
  rcases hc with hc | ⟨b', o', he', hb, hc⟩
  · omega
  · injection he' with he'
    injection he' with h4 h5 _
    subst h4 h5
    have he : (⟨b, o, none⟩ : Addr).add j = ⟨b, o + j, none⟩ := by unfold Addr.add; split <;> simp_all
    rw [he, hW.cell (p := ⟨b, o + j, none⟩) hb, hc j hlt, hj]

/-- An account by value. -/
def AccAt (w : World) (v : Value) (a : Acc) : Prop := ∃ su en, v = .agg #[.int .i64 a.credit, su, en] ∧ SubsAt w su a.subs ∧ EntsAt w en a.ents
theorem AccAt.below {w w' : World} {v : Value} {a : Acc} (h : AccAt w v a) (hb : Below w.heap.size w w') : AccAt w' v a := by
  obtain ⟨su, en, h1, h2, h3⟩ := h
  exact ⟨su, en, h1, h2.below hb, h3.below hb⟩

end Go.Proofs.Ytoelidndnajedab

/- The single account, as mathematics: sums of balances and flows of entries, balances of a day, bounds of balances; of no function of the program; no condition. -/
namespace Go.Proofs.Ytoelidndnajedab
open Go.RowKit Go.Lib Go.Proofs

theorem sumM_cons (s : SubA) (l : List SubA) : sumM (s :: l) = s.bal + sumM l := by simp [sumM]
theorem sumM_nil : sumM [] = 0 := rfl
theorem sumM_bump : ∀ (l : List SubA) (i : Nat) (d : Int), i < l.length → sumM (bump l i d) = sumM l + d
  | [], _, _, h => by simp at h
  | s :: l, 0, d, _ => by
    show sumM (⟨s.id, s.bal + d⟩ :: l) = _
    rw [sumM_cons, sumM_cons]
    show s.bal + d + sumM l = _
    omega
  | s :: l, i + 1, d, h => by
    have ih := sumM_bump l i d (by simpa using h)
    show sumM (s :: bump l i d) = _
    rw [sumM_cons, sumM_cons, ih]
    omega

/-- No sub-account has the ID 0. -/
def NoZero (l : List SubA) : Prop := ∀ s ∈ l, s.id ≠ 0
theorem noZero_of_ids {l m : List SubA} (h : l.map SubA.id = m.map SubA.id) (hl : NoZero l) : NoZero m := fun s hs e => by
  have : (0 : Int) ∈ m.map SubA.id := List.mem_map.2 ⟨s, hs, e⟩
  rw [← h] at this
  obtain ⟨t, ht, e2⟩ := List.mem_map.1 this
  exact hl t ht e2
theorem noZero_plain {a : Acc} (h : plainM a = true) : NoZero a.subs := fun s hs e => by
  unfold plainM idsM at h
  simp only [Bool.and_eq_true, decide_eq_true_eq] at h
  obtain ⟨i, hi, rfl⟩ := List.getElem_of_mem hs
  have := (h.2.2.2.1 i hi).1
  rw [subAt_get hi] at this
  omega

theorem takeM_sum {credit : Int} {l m : List SubA} {id amount : Int} (h : takeM credit l id amount = some m) (hn : NoZero l) (hs : id = 0 ∨ (atS l id).isSome = true) : sumM m = sumM l - (if id = 0 then 0 else amount) := by
  unfold takeM at h
  split at h
  · rename_i hat
    injection h with h
    subst h
    rcases hs with rfl | hs
    · simp
    · rw [hat] at hs; cases hs
  · rename_i i hat
    have hi := atS_some hat
    have h0 : id ≠ 0 := fun e => by
      have := hn _ (List.getElem_mem hi.1)
      rw [← subAt_get hi.1, hi.2.1] at this
      exact this e
    split at h
    · cases h
    · injection h with h
      subst h
      rw [sumM_bump _ _ _ hi.1, if_neg h0]
      omega
theorem giveM_sum {l m : List SubA} {id amount : Int} (h : giveM l id amount = some m) (hn : NoZero l) (hs : id = 0 ∨ (atS l id).isSome = true) : sumM m = sumM l + (if id = 0 then 0 else amount) := by
  unfold giveM at h
  split at h
  · rename_i hat
    injection h with h
    subst h
    rcases hs with rfl | hs
    · simp
    · rw [hat] at hs; cases hs
  · rename_i i hat
    have hi := atS_some hat
    have h0 : id ≠ 0 := fun e => by
      have := hn _ (List.getElem_mem hi.1)
      rw [← subAt_get hi.1, hi.2.1] at this
      exact this e
    split at h
    · cases h
    · injection h with h
      subst h
      rw [sumM_bump _ _ _ hi.1, if_neg h0]

/-- What an entry brings from outside, and what it takes there. -/
def inE (e : Ent) : Int := if e.frm = 0 then e.amount else 0
def outE (e : Ent) : Int := if e.to = 0 then e.amount else 0
theorem addM_sum {credit : Int} {l m : List SubA} {last e : Ent} (h : addM credit l last e = .ok m) (hn : NoZero l) : sumM m = sumM l + inE e - outE e := by
  obtain ⟨hf, l1, h1, h2⟩ := addM_parts h
  obtain ⟨_, _, _, _, _, hne, hs1, hs2⟩ := faultE_zero hf
  have hid1 := takeM_ids h1
  have e1 := takeM_sum h1 hn hs1
  have e2 := giveM_sum h2 (noZero_of_ids hid1.symm hn) (by rw [atS_ids _ hid1]; exact hs2)
  rw [e2, e1]
  unfold inE outE
  by_cases a : e.frm = 0
  · have b : e.to ≠ 0 := fun e' => hne (a.trans e'.symm)
    simp only [if_pos a, if_neg b]
    omega
  · by_cases b : e.to = 0
    · simp only [if_neg a, if_pos b]
      omega
    · simp only [if_neg a, if_neg b]
      omega

def flowI (a b : Int) : List Ent → Int
  | [] => 0
  | e :: l => (if a ≤ e.day ∧ e.day ≤ b then inE e else 0) + flowI a b l
def flowO (a b : Int) : List Ent → Int
  | [] => 0
  | e :: l => (if a ≤ e.day ∧ e.day ≤ b then outE e else 0) + flowO a b l
theorem flowI_snoc (a b : Int) (e : Ent) : ∀ l : List Ent, flowI a b (l ++ [e]) = flowI a b l + (if a ≤ e.day ∧ e.day ≤ b then inE e else 0)
  | [] => by simp [flowI]
  | x :: l => by simp only [List.cons_append, flowI, flowI_snoc a b e l]; omega
theorem flowO_snoc (a b : Int) (e : Ent) : ∀ l : List Ent, flowO a b (l ++ [e]) = flowO a b l + (if a ≤ e.day ∧ e.day ≤ b then outE e else 0)
  | [] => by simp [flowO]
  | x :: l => by simp only [List.cons_append, flowO, flowO_snoc a b e l]; omega
theorem flowI_split (a k b : Int) (h1 : a ≤ k + 1) (h2 : k ≤ b) : ∀ l : List Ent, flowI a k l + flowI (k + 1) b l = flowI a b l
  | [] => rfl
  | x :: l => by
    have ih := flowI_split a k b h1 h2 l
    simp only [flowI]
    by_cases c1 : a ≤ x.day ∧ x.day ≤ k
    · rw [if_pos c1, if_neg (by omega), if_pos (by omega)]; omega
    · by_cases c2 : k + 1 ≤ x.day ∧ x.day ≤ b
      · rw [if_neg c1, if_pos c2, if_pos (by omega)]; omega
      · rw [if_neg c1, if_neg c2, if_neg (by omega)]; omega
theorem flowO_split (a k b : Int) (h1 : a ≤ k + 1) (h2 : k ≤ b) : ∀ l : List Ent, flowO a k l + flowO (k + 1) b l = flowO a b l
  | [] => rfl
  | x :: l => by
    have ih := flowO_split a k b h1 h2 l
    simp only [flowO]
    by_cases c1 : a ≤ x.day ∧ x.day ≤ k
    · rw [if_pos c1, if_neg (by omega), if_pos (by omega)]; omega
    · by_cases c2 : k + 1 ≤ x.day ∧ x.day ≤ b
      · rw [if_neg c1, if_pos c2, if_pos (by omega)]; omega
      · rw [if_neg c1, if_neg c2, if_neg (by omega)]; omega

/-- The entries that are not too late: all of them, where the days ascend. -/
def days (last : Int) : List Ent → Prop
  | [] => True
  | e :: l => last ≤ e.day ∧ days e.day l
theorem flow_late {a k : Int} : ∀ {l : List Ent} {last : Int}, days last l → k < last → flowI a k l = 0 ∧ flowO a k l = 0
  | [], _, _, _ => ⟨rfl, rfl⟩
  | e :: l, last, h, hk => by
    obtain ⟨h1, h2⟩ := h
    obtain ⟨i1, i2⟩ := flow_late (a := a) (k := k) h2 (by omega)
    simp only [flowI, flowO]
    rw [if_neg (by omega), if_neg (by omega), i1, i2]
    exact ⟨rfl, rfl⟩

/-- What entries make of balances: the sum grows by what comes from outside, less what goes there, up to the day. -/
theorem untilM_sum {credit k : Int} : ∀ {es : List Ent} {l m : List SubA} {last : Ent}, untilM credit k es l last = .ok m → NoZero l → days last.day es → 0 ≤ last.day → sumM m = sumM l + flowI 0 k es - flowO 0 k es
  | [], l, m, last, h, _, _, _ => by injection h with h; rw [h]; simp [flowI, flowO]
  | e :: es, l, m, last, h, hn, hd, h0 => by
    unfold untilM at h
    split at h
    · rename_i hk
      injection h with h
      subst h
      obtain ⟨f1, f2⟩ := flow_late (a := 0) (k := k) (l := e :: es) (last := e.day) ⟨Int.le_refl _, hd.2⟩ hk
      rw [f1, f2]
      omega
    · rename_i hk
      split at h
      · cases h
      · rename_i l' hl
        have hs := addM_sum hl hn
        have h1 := hd.1
        have ih := untilM_sum h (noZero_of_ids (addM_ids hl).symm hn) hd.2 (by omega)
        simp only [flowI, flowO]
        rw [if_pos (by omega), if_pos (by omega), ih, hs]
        omega

/-- Where all entries are possible, their days ascend. -/
theorem untilM_days {credit : Int} : ∀ {es : List Ent} {l m : List SubA} {last : Ent}, untilM credit 36000 es l last = .ok m → daysM es = true → days last.day es
  | [], _, _, _, _, _ => trivial
  | e :: es, l, m, last, h, hd => by
    simp only [daysM, List.all_cons, Bool.and_eq_true] at hd
    have hx := (inB_true.1 hd.1).2
    unfold untilM at h
    rw [if_neg (by omega)] at h
    split at h
    · cases h
    · rename_i l' hl
      have hf := faultE_zero (addM_parts hl).1
      exact ⟨hf.2.1, untilM_days h hd.2⟩

/-- And up to a day they are possible, too. -/
theorem untilM_day {credit k : Int} : ∀ {es : List Ent} {l m : List SubA} {last : Ent}, untilM credit 36000 es l last = .ok m → daysM es = true → ∃ m', untilM credit k es l last = .ok m'
  | [], l, _, _, _, _ => ⟨l, rfl⟩
  | e :: es, l, m, last, h, hd => by
    simp only [daysM, List.all_cons, Bool.and_eq_true] at hd
    have hx := (inB_true.1 hd.1).2
    unfold untilM at h ⊢
    rw [if_neg (by omega)] at h
    split
    · exact ⟨l, rfl⟩
    · split at h
      · cases h
      · rename_i l' hl
        exact untilM_day h hd.2

/-- No balance but the main one is below 0, that one not below the credit; none is too high. -/
def Bal (credit : Int) (s : SubA) : Prop := (0 ≤ s.bal ∨ (s.id = 1 ∧ -credit ≤ s.bal)) ∧ s.bal ≤ 1000000000000000
def Bals (credit : Int) (l : List SubA) : Prop := ∀ s ∈ l, Bal credit s
theorem bals_set {credit : Int} {l : List SubA} {i : Nat} {s : SubA} (h : Bals credit l) (hs : Bal credit s) : Bals credit (l.set i s) := fun t ht => by
  rcases List.mem_or_eq_of_mem_set ht with ht | rfl
  · exact h t ht
  · exact hs
theorem takeM_bals {credit : Int} {l m : List SubA} {id amount : Int} (h : takeM credit l id amount = some m) (hb : Bals credit l) (ha : 0 ≤ amount) : Bals credit m := by
  unfold takeM at h
  split at h
  · injection h with h; rw [← h]; exact hb
  · rename_i i hat
    have hi := atS_some hat
    split at h
    · cases h
    · rename_i hno
      injection h with h
      subst h
      have hs := hb _ (List.getElem_mem hi.1)
      rw [← subAt_get hi.1] at hs
      refine bals_set hb ⟨?_, ?_⟩
      · show 0 ≤ (subAt l i).bal + -amount ∨ ((subAt l i).id = 1 ∧ -credit ≤ (subAt l i).bal + -amount)
        by_cases h0 : 0 ≤ (subAt l i).bal + -amount
        · exact Or.inl h0
        · refine Or.inr ⟨?_, ?_⟩
          · by_cases h1 : (subAt l i).id = 1
            · exact h1
            · exact absurd ⟨by omega, Or.inl h1⟩ hno
          · by_cases h1 : -credit ≤ (subAt l i).bal + -amount
            · exact h1
            · exact absurd ⟨by omega, Or.inr (by omega)⟩ hno
      · show (subAt l i).bal + -amount ≤ _
        have := hs.2
        omega
theorem giveM_bals {credit : Int} {l m : List SubA} {id amount : Int} (h : giveM l id amount = some m) (hb : Bals credit l) (ha : 0 ≤ amount) : Bals credit m := by
  unfold giveM at h
  split at h
  · injection h with h; rw [← h]; exact hb
  · rename_i i hat
    have hi := atS_some hat
    split at h
    · cases h
    · rename_i hno
      injection h with h
      subst h
      have hs := hb _ (List.getElem_mem hi.1)
      rw [← subAt_get hi.1] at hs
      refine bals_set hb ⟨?_, ?_⟩
      · show 0 ≤ (subAt l i).bal + amount ∨ ((subAt l i).id = 1 ∧ -credit ≤ (subAt l i).bal + amount)
        rcases hs.1 with h0 | ⟨h1, h2⟩
        · exact Or.inl (by omega)
        · exact Or.inr ⟨h1, by omega⟩
      · show (subAt l i).bal + amount ≤ _
        omega
theorem addM_bals {credit : Int} {l m : List SubA} {last e : Ent} (h : addM credit l last e = .ok m) (hb : Bals credit l) : Bals credit m := by
  obtain ⟨hf, l1, h1, h2⟩ := addM_parts h
  have ha := (faultE_zero hf).2.2.2.1
  exact giveM_bals h2 (takeM_bals h1 hb (by omega)) (by omega)
theorem untilM_bals {credit k : Int} : ∀ {es : List Ent} {l m : List SubA} {last : Ent}, untilM credit k es l last = .ok m → Bals credit l → Bals credit m
  | [], l, m, _, h, hb => by injection h with h; rw [← h]; exact hb
  | e :: es, l, m, last, h, hb => by
    unfold untilM at h
    split at h
    · injection h with h; rw [← h]; exact hb
    · split at h
      · cases h
      · rename_i l' hl
        exact untilM_bals h (addM_bals hl hb)
theorem emptyM_bals {credit : Int} (l : List SubA) : Bals credit (emptyM l) := fun s hs => by
  unfold emptyM at hs
  obtain ⟨t, _, rfl⟩ := List.mem_map.1 hs
  exact ⟨Or.inl (Int.le_refl _), by show (0 : Int) ≤ _; omega⟩
theorem emptyM_sum : ∀ l : List SubA, sumM (emptyM l) = 0
  | [] => rfl
  | s :: l => by
    show sumM (⟨s.id, 0⟩ :: emptyM l) = 0
    rw [sumM_cons, emptyM_sum l]
    rfl

/-- Of a right account: its sum is what came from outside less what went there; its balances are in their bounds. -/
theorem right_sum {a : Acc} (h : checkM a = 0) : sumM a.subs = flowI 0 36000 a.ents - flowO 0 36000 a.ents := by
  obtain ⟨_, _, h3, h4, h5⟩ := checkM_zero.1 h
  have := untilM_sum h5 (noZero_of_ids (emptyM_ids _).symm (noZero_plain h3)) (untilM_days h5 h4) (Int.le_refl _)
  rw [emptyM_sum] at this
  omega
theorem right_bals {a : Acc} (h : checkM a = 0) : Bals a.credit a.subs := by
  obtain ⟨_, _, _, _, h5⟩ := checkM_zero.1 h
  exact untilM_bals h5 (emptyM_bals _)

/-- The balances of a day of a right account. -/
theorem right_day {a : Acc} (h : checkM a = 0) (k : Int) : ∃ m, untilM a.credit k a.ents (emptyM a.subs) Ent.zero = .ok m ∧ sumM m = flowI 0 k a.ents - flowO 0 k a.ents ∧ Bals a.credit m ∧ m.map SubA.id = a.subs.map SubA.id := by
  obtain ⟨_, _, h3, h4, h5⟩ := checkM_zero.1 h
  obtain ⟨m, hm⟩ := untilM_day (k := k) h5 h4
  have := untilM_sum hm (noZero_of_ids (emptyM_ids _).symm (noZero_plain h3)) (untilM_days h5 h4) (Int.le_refl _)
  rw [emptyM_sum] at this
  exact ⟨m, hm, by omega, untilM_bals hm (emptyM_bals _), (untilM_ids _ _ _ _ _ _ hm).trans (emptyM_ids _)⟩

end Go.Proofs.Ytoelidndnajedab

/- The single account, as mathematics: opening, numbers of entries, when an entry is possible, accounts as the statements make them, the chapter's example; of no function of the program; no condition. -/
namespace Go.Proofs.Ytoelidndnajedab
open Go.RowKit Go.Lib Go.Proofs

def openM (ids : List Int) (credit : Int) : Except Int Acc :=
  if amtB credit = false then .error 2
  else if 20 < ids.length then .error 3
  else if plainM ⟨credit, ids.map fun i => ⟨i, 0⟩, []⟩ = true then .ok ⟨credit, ids.map fun i => ⟨i, 0⟩, []⟩
  else .error 60

theorem openM_right {ids : List Int} {credit : Int} {a : Acc} (h : openM ids credit = .ok a) : checkM a = 0 ∧ a.subs.map SubA.id = ids ∧ a.ents = [] ∧ a.credit = credit := by
  unfold openM at h
  split at h
  · cases h
  · split at h
    · cases h
    · rename_i h2
      split at h
      · rename_i h3
        injection h with h
        subst h
        refine ⟨checkM_zero.2 ⟨by simp; omega, by simp, h3, rfl, ?_⟩, by simp [Function.comp_def], rfl, rfl⟩
        simp [untilM, emptyM, Function.comp_def]
      · cases h

/-- The numbers of entries that are possible follow each other. -/
theorem untilM_numbers {credit : Int} : ∀ {es : List Ent} {l m : List SubA} {last : Ent}, untilM credit 36000 es l last = .ok m → daysM es = true → ((es.getLast?).getD last).number = last.number + es.length
  | [], _, _, last, _, _ => by simp
  | e :: es, l, m, last, h, hd => by
    simp only [daysM, List.all_cons, Bool.and_eq_true] at hd
    have hx := (inB_true.1 hd.1).2
    unfold untilM at h
    rw [if_neg (by omega)] at h
    split at h
    · cases h
    · rename_i l' hl
      have hf := faultE_zero (addM_parts hl).1
      have ih := untilM_numbers h hd.2
      have hg : ((e :: es).getLast?).getD last = (es.getLast?).getD e := by simp [List.getLast?_cons]
      rw [hg, ih, hf.1, List.length_cons]
      omega
theorem right_number {a : Acc} (h : checkM a = 0) : (lastE a.ents).number = a.ents.length := by
  obtain ⟨_, _, _, h4, h5⟩ := checkM_zero.1 h
  have := untilM_numbers h5 h4
  unfold lastE
  rw [this]
  show (0 : Int) + _ = _
  omega

def amtS : List Ent → Int
  | [] => 0
  | e :: l => e.amount + amtS l
/-- No balance is more than all amounts together. -/
theorem addM_top {credit B : Int} {l m : List SubA} {last e : Ent} (h : addM credit l last e = .ok m) (hb : ∀ s ∈ l, s.bal ≤ B) : ∀ s ∈ m, s.bal ≤ B + e.amount := by
  obtain ⟨hf, l1, h1, h2⟩ := addM_parts h
  have ha := (faultE_zero hf).2.2.2.1
  have hb1 : ∀ s ∈ l1, s.bal ≤ B := by
    unfold takeM at h1
    split at h1
    · injection h1 with h1; rw [← h1]; exact hb
    · rename_i i hat
      have hi := atS_some hat
      split at h1
      · cases h1
      · injection h1 with h1
        subst h1
        intro s hs
        have h0 := hb _ (List.getElem_mem hi.1)
        rw [← subAt_get hi.1] at h0
        rcases List.mem_or_eq_of_mem_set hs with hs | rfl
        · exact hb s hs
        · show (subAt l i).bal + -e.amount ≤ B
          omega
  unfold giveM at h2
  split at h2
  · injection h2 with h2; rw [← h2]; intro s hs; have := hb1 s hs; omega
  · rename_i i hat
    have hi := atS_some hat
    split at h2
    · cases h2
    · injection h2 with h2
      subst h2
      intro s hs
      have h0 := hb1 _ (List.getElem_mem hi.1)
      rw [← subAt_get hi.1] at h0
      rcases List.mem_or_eq_of_mem_set hs with hs | rfl
      · have := hb1 s hs; omega
      · show (subAt l1 i).bal + e.amount ≤ _
        omega
theorem untilM_top {credit k : Int} : ∀ {es : List Ent} {l m : List SubA} {last : Ent} {B : Int}, untilM credit k es l last = .ok m → (∀ s ∈ l, s.bal ≤ B) → daysM es = true → k = 36000 → ∀ s ∈ m, s.bal ≤ B + amtS es
  | [], l, m, _, B, h, hb, _, _ => by injection h with h; rw [← h]; intro s hs; have := hb s hs; simp only [amtS]; omega
  | e :: es, l, m, last, B, h, hb, hd, hk => by
    simp only [daysM, List.all_cons, Bool.and_eq_true] at hd
    have hx := (inB_true.1 hd.1).2
    unfold untilM at h
    rw [if_neg (by omega)] at h
    split at h
    · cases h
    · rename_i l' hl
      intro s hs
      have := untilM_top h (addM_top hl hb) hd.2 hk s hs
      simp only [amtS]
      omega
theorem amtS_le {B : Int} : ∀ {l : List Ent}, (∀ e ∈ l, e.amount ≤ B) → amtS l ≤ B * l.length
  | [], _ => by simp [amtS]
  | e :: l, h => by
    have h1 := h e (by simp)
    have h2 := amtS_le (l := l) (fun x hx => h x (by simp [hx]))
    have h3 : B * ((e :: l).length : Int) = B * (l.length : Int) + B := by rw [List.length_cons, Int.natCast_add, Int.mul_add]; simp
    rw [h3]
    simp only [amtS]
    omega

/-- An account as the statements make it: right, of these sub-accounts, of at most k entries of at most B each, up to a day. -/
structure Made (a : Acc) (ids : List Int) (k : Nat) (B d : Int) : Prop where
  right : checkM a = 0
  ids : a.subs.map SubA.id = ids
  len : a.ents.length ≤ k
  amt : ∀ e ∈ a.ents, e.amount ≤ B
  day : (lastE a.ents).day ≤ d

theorem Made.top {a : Acc} {ids : List Int} {k : Nat} {B d : Int} (h : Made a ids k B d) (hB : 0 ≤ B) : ∀ s ∈ a.subs, s.bal ≤ B * k := by
  obtain ⟨_, _, _, h4, h5⟩ := checkM_zero.1 h.right
  intro s hs
  have h1 := untilM_top h5 (B := 0) (fun t ht => by
    unfold emptyM at ht
    obtain ⟨u, _, rfl⟩ := List.mem_map.1 ht
    exact Int.le_refl _) h4 rfl s hs
  have h2 := amtS_le h.amt
  have h3 : B * (a.ents.length : Int) ≤ B * (k : Int) := Int.mul_le_mul_of_nonneg_left (by have := h.len; omega) hB
  omega
theorem Made.more {a : Acc} {ids : List Int} {k k' : Nat} {B d d' : Int} (h : Made a ids k B d) (hk : k ≤ k') (hd : d ≤ d') : Made a ids k' B d' :=
  ⟨h.right, h.ids, Nat.le_trans h.len hk, h.amt, Int.le_trans h.day hd⟩
theorem Made.post {a b : Acc} {ids : List Int} {k : Nat} {B d : Int} {e : Ent} (h : Made a ids k B d) (hp : postM a e = .ok b) (he : e.amount ≤ B) (hd : e.day ≤ d) : Made b ids (k + 1) B d := by
  obtain ⟨_, hb, h1, _, _, h2⟩ := postM_right hp
  refine ⟨hb, (addM_ids h2).trans h.ids, ?_, fun x hx => ?_, ?_⟩
  · rw [h1]; simp; have := h.len; omega
  · rw [h1] at hx
    rcases List.mem_append.1 hx with hx | hx
    · exact h.amt x hx
    · rw [List.mem_singleton] at hx; rw [hx]; exact he
  · rw [h1, lastE_snoc]; exact hd

/-- An entry from outside, of the next number, is possible. -/
theorem post_in {a : Acc} {ids : List Int} {k : Nat} {B d day to amount : Int} (h : Made a ids k B d) (hB : 0 ≤ B) (hk : k < 400) (hd : d ≤ day) (h0 : 0 ≤ day ∧ day ≤ 36000) (ha : 1 ≤ amount ∧ amount ≤ 1000000000000) (hto : to ≠ 0) (hid : to ∈ ids) (hmax : B * k + amount ≤ 1000000000000000) :
    ∃ b, postM a (nextM a.ents day 0 to amount 0) = .ok b := by
  have hz := checkM_zero.1 h.right
  have hn := noZero_plain hz.2.2.1
  have hat : (atS a.subs to).isSome = true := by
    cases hs : atS a.subs to with
    | some i => rfl
    | none =>
      rw [← h.ids] at hid
      obtain ⟨s, hs1, hs2⟩ := List.mem_map.1 hid
      exact absurd hs2 (atS_none.1 hs s hs1)
  have hf0 : atS a.subs 0 = none := atS_none.2 fun s hs => hn s hs
  have hday := h.day
  have hf : faultE a.subs (lastE a.ents) (nextM a.ents day 0 to amount 0) = 0 := by
    unfold faultE nextM dayB' amtB
    simp only
    rw [if_neg (by omega), if_neg (by rw [inB_true.2 h0]; simp; omega), if_neg (by rw [inB_true.2 ⟨by omega, ha.2⟩]; simp; omega), if_neg]
    rintro (e | ⟨e, _⟩ | ⟨_, e⟩)
    · exact hto e.symm
    · exact e rfl
    · rw [e] at hat; cases hat
  have hlen := h.len
  obtain ⟨i, hi⟩ := Option.isSome_iff_exists.1 hat
  have hi' := atS_some hi
  have htop := h.top hB _ (List.getElem_mem hi'.1)
  rw [← subAt_get hi'.1] at htop
  have h1 : takeM a.credit a.subs 0 amount = some a.subs := by unfold takeM; rw [hf0]
  have h2 : giveM a.subs to amount = some (bump a.subs i amount) := by unfold giveM; rw [hi]; exact if_neg (by omega)
  have hadd : addM a.credit a.subs (lastE a.ents) (nextM a.ents day 0 to amount 0) = .ok (bump a.subs i amount) := by
    unfold addM
    rw [if_pos hf]
    simp only [nextM, h1, h2]
  refine ⟨{ a with subs := bump a.subs i amount, ents := a.ents ++ [nextM a.ents day 0 to amount 0] }, ?_⟩
  unfold postM
  rw [if_neg (by rw [h.right]; simp), if_neg (by omega), hadd]

theorem faultE_known {l : List SubA} {last e : Ent} (h : e.number ≠ last.number + 1) : faultE l last e = 65 := if_pos h
theorem faultE_order {l : List SubA} {last e : Ent} (h : e.number = last.number + 1) (h2 : e.day < last.day) : faultE l last e = 8 := (if_neg (fun g => g h)).trans (if_pos (Or.inl h2))
theorem post_fault {a : Acc} {e : Ent} {c : Int} (h : checkM a = 0) (hl : a.ents.length ≠ 400) (hf : faultE a.subs (lastE a.ents) e = c) (hc : c ≠ 0) : postM a e = .error c := by
  unfold postM
  rw [if_neg (by rw [h]; simp), if_neg hl]
  unfold addM
  rw [if_neg (by rw [hf]; exact hc), hf]

/-! ### The chapter's example -/
def exAcc : Acc := ⟨0, [⟨1, 0⟩, ⟨2, 0⟩], []⟩
def exEnt : Ent := ⟨1, 0, 0, 2, 5, 0⟩
def exAcc2 : Acc := ⟨0, [⟨1, 0⟩, ⟨2, 5⟩], [exEnt]⟩
theorem ex_open : openM [1, 2] 0 = .ok exAcc := rfl
theorem ex_next : nextM exAcc.ents 0 0 2 5 0 = exEnt := rfl
theorem ex_next2 : nextM exAcc.ents 0 2 0 5 0 = ⟨1, 0, 2, 0, 5, 0⟩ := rfl
theorem ex_no : postM exAcc ⟨1, 0, 2, 0, 5, 0⟩ = .error 61 := rfl
theorem ex_yes : postM exAcc exEnt = .ok exAcc2 := rfl
theorem ex_bal : balanceM exAcc2 2 = (5, true) := rfl
theorem ex_total : totalM exAcc2 = 5 := rfl

end Go.Proofs.Ytoelidndnajedab
