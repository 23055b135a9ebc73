/- Texts of one claim, merged: AcX, SfSub, AcV. -/
import Derived.Test.YtoelidndnajedabMG5
import Derived.Test.YtoelidndnajedabMG1
/- Sub-accounts and entries as structs of some fields; of no function of the program; no condition. -/
set_option linter.unusedSimpArgs false
set_option linter.unusedVariables false
namespace Go.Proofs.Ytoelidndnajedab
open Go.RowKit Go.Lib Go.Proofs

def subC (s : SubA) : List Value := [.int .i64 s.id, .int .i64 s.bal]
theorem subF : Fields subC 2 := ⟨fun _ => rfl, fun _ u hu => by simp only [subC, List.mem_cons, List.mem_nil_iff, or_false] at hu; rcases hu with rfl | rfl <;> rfl, by decide⟩
theorem entF : Fields Ent.cells 6 := ⟨fun _ => rfl, fun _ u hu => by simp only [Ent.cells, List.mem_cons, List.mem_nil_iff, or_false] at hu; rcases hu with rfl | rfl | rfl | rfl | rfl | rfl <;> rfl, by decide⟩
theorem cellsU_L : ∀ l : List SubA, cellsU l = cellsL subC l
  | [] => rfl
  | s :: l => by simp only [cellsU, cellsL, subC, cellsU_L l, List.cons_append, List.nil_append]
theorem cellsN_L : ∀ l : List Ent, cellsN l = cellsL Ent.cells l
  | [] => rfl
  | s :: l => by simp only [cellsN, cellsL, cellsN_L l]
theorem subs_list {w : World} {v : Value} {l : List SubA} : SubsAt w v l ↔ ListAt subC 2 w v l := by
  unfold SubsAt ListAt
  rw [cellsU_L]
theorem ents_list {w : World} {v : Value} {l : List Ent} : EntsAt w v l ↔ ListAt Ent.cells 6 w v l := by
  unfold EntsAt ListAt
  rw [cellsN_L]

end Go.Proofs.Ytoelidndnajedab

/- slices.IndexFunc and ContainsFunc at SubA, for every predicate that returns; for rows of up to 10^6 elements. -/
set_option linter.unusedSimpArgs false
set_option linter.unusedVariables false
namespace Go.Proofs.Ytoelidndnajedab
open Go.RowKit Go.Lib Go.Proofs

/-- A predicate that is called with one SubA. -/
def subPred (f : Nat) (lb : Array Value) (p : SubA → Bool) (xs : List SubA) (Old : World → Prop) : Prop :=
  ∀ x ∈ xs, ∀ W, Old W → Calls Try.prog f (#[.agg (subC x).toArray] ++ lb) W fun e W' => e = .returned (.bool (p x)) ∧ Below W.heap.size W W'

set_option maxRecDepth 100000 in
set_option maxHeartbeats 4000000 in
theorem subIndex_any (f : Nat) (lb : Array Value) (eg : ∀ args w, (callFunc f args).run Try.prog w = .ok (.enter f args) w) (p : SubA → Bool) (xs : List SubA) (v : Value) (w : World)
    (hr : ListAt subC 2 w v xs) (hlen : xs.length ≤ 1000000) (hp : subPred f lb p xs fun W => Below w.heap.size w W) :
    Calls Try.prog 97 #[v, .func (.func f) #[] lb] w (IndexPost p xs w) := by
  obtain ⟨ao, cap, rfl, hcap, hc⟩ := hr.shape subF
  obtain ⟨n, hn⟩ : ∃ n, n = xs.length := ⟨_, rfl⟩
  have HN := Lib.hid hn
  have HP := Lib.hid hp
  rw [← hn] at hlen hcap ⊢
  have HC := Lib.hid hc
  clear hp hn hr hc
  go_enter Try.func97, Try.ntmps97
  go_wp2
  go_loopw [8] (fun i wr => ∃ k : Nat, i = .int .i64 k ∧ k ≤ n ∧ Hid (∀ x ∈ xs.take k, p x = false) ∧ Hid (Below w.heap.size w wr)) (fun i _ => n - (RowKit.intOf i).toNat)
  case atStart => exact ⟨0, rfl, by omega, Lib.hid (by simp), Lib.hid (Below.refl _ _)⟩
  case round =>
    obtain ⟨k, rfl, hkn, HF, HB⟩ := hrel
    by_cases hlt : k < n
    · have hlx : k < xs.length := by rw [← HN.out]; exact hlt
      obtain ⟨b, o, rfl, hb, hcc⟩ := HC.out (by omega)
      have hcell := fun j (hj : j < 2) => (HB.out.cell (p := ⟨b, o + k * 2 + j, none⟩) hb).trans (hcc k hlx j hj)
      have hcall := HP.out xs[k] (List.getElem_mem hlx) wr HB.out
      obtain ⟨x, hx⟩ : ∃ x, x = xs[k] := ⟨_, rfl⟩
      rw [← hx] at hcell hcall
      have HX := Lib.hid hx
      have hpx : Hid (∃ c, c = p x) := Lib.hid ⟨_, rfl⟩
      obtain ⟨c, hc⟩ := hpx.out
      have HPX := Lib.hid hc
      rw [← hc] at hcall
      clear hx hc hpx hcc
      obtain ⟨y0, y1⟩ := x
      have c0 := hcell 0 (by omega)
      have c1 := hcell 1 (by omega)
      simp [subC] at c0 c1 hcall
      have HCALL := Lib.hid hcall
      have hk0 : (0 : Int) ≤ (k : Int) := by omega
      have hk1 : (k : Int) < (n : Int) := by omega
      clear hcell hcall HC
      cases c with
      | true =>
        go_wp2_with fail
        with_reducible refine (HCALL.out).mono ?_
        rintro e w1 ⟨rfl, hb1⟩
        go_wp2
        go_ret
        exact ⟨k, rfl, Or.inr ⟨k, rfl, hlx, by rw [← HX.out]; exact HPX.out.symm, HF.out⟩, HB.out.trans (hb1.mono HB.out.size)⟩
      | false =>
        go_wp2_with fail
        with_reducible refine (HCALL.out).mono ?_
        rintro e w1 ⟨rfl, hb1⟩
        go_wp2
        go_roundw
        case rel => exact ⟨k + 1, by first | rfl | go_num, by omega, Lib.hid (take_snoc_pred hlx HF.out (by rw [← HX.out]; exact HPX.out.symm)), Lib.hid (HB.out.trans (hb1.mono HB.out.size))⟩
        case measure => simp [RowKit.intOf]; omega
    · obtain rfl : k = n := by omega
      clear HC
      go_wp2
      go_ret
      exact ⟨-1, rfl, Or.inl ⟨rfl, fun x hx => HF.out x (by rw [HN.out, List.take_length]; exact hx)⟩, HB.out⟩

end Go.Proofs.Ytoelidndnajedab

/- The single account, as mathematics: how an entry is carried out in place, how an account is replayed, entries of some days; of no function of the program; no condition. -/
namespace Go.Proofs.Ytoelidndnajedab
open Go.RowKit Go.Lib Go.Proofs

def addP (l : List SubA) (id d : Int) : List SubA := match atS l id with
  | none => l
  | some i => bump l i d
theorem addP_ids (l : List SubA) (id d : Int) : (addP l id d).map SubA.id = l.map SubA.id := by
  unfold addP
  split
  · rfl
  · exact bump_ids _ _ _
theorem addP_len (l : List SubA) (id d : Int) : (addP l id d).length = l.length := len_of_ids (addP_ids l id d)

def leastM (cr id : Int) : Int := if id = 1 then -cr else 0
def bearsM (cr : Int) (l : List SubA) (id d : Int) : Bool := if id = 0 then true else match atS l id with
  | none => false
  | some i => inB ((subAt l i).bal + d) (leastM cr id) 1000000000000000

theorem takeM_some {cr : Int} {l m : List SubA} {id am : Int} (h : takeM cr l id am = some m) : m = addP l id (-am) := by
  unfold takeM at h
  unfold addP
  split at h
  · rename_i hat
    injection h with h
    rw [hat]
    exact h.symm
  · rename_i i hat
    split at h
    · cases h
    · injection h with h
      rw [hat]
      exact h.symm
theorem giveM_some {l m : List SubA} {id am : Int} (h : giveM l id am = some m) : m = addP l id am := by
  unfold giveM at h
  unfold addP
  split at h
  · rename_i hat
    injection h with h
    rw [hat]
    exact h.symm
  · rename_i i hat
    split at h
    · cases h
    · injection h with h
      rw [hat]
      exact h.symm
theorem addM_ok {cr : Int} {l m : List SubA} {last e : Ent} (h : addM cr l last e = .ok m) : m = addP (addP l e.frm (-e.amount)) e.to e.amount := by
  obtain ⟨_, l1, h1, h2⟩ := addM_parts h
  rw [giveM_some h2, takeM_some h1]

theorem takeM_bears {cr : Int} {l : List SubA} {id am : Int} (hb : Bals cr l) (hn : NoZero l) (hc : 0 ≤ cr) (ha : 0 ≤ am) (hs : id = 0 ∨ (atS l id).isSome = true) : takeM cr l id am = if bearsM cr l id (-am) = true then some (addP l id (-am)) else none := by
  unfold takeM bearsM addP
  by_cases h0 : id = 0
  · subst h0
    have hf : atS l 0 = none := atS_none.2 fun s hs => hn s hs
    rw [hf]
    simp
  · rw [if_neg h0]
    cases hat : atS l id with
    | none => rw [hat] at hs; rcases hs with h | h; exact absurd h h0; cases h
    | some i =>
      have hi := atS_some hat
      have hbi := hb _ (List.getElem_mem hi.1)
      rw [← subAt_get hi.1] at hbi
      simp only
      unfold leastM
      have h1 := hbi.2
      have hid := hi.2.1
      by_cases hyes : (if id = 1 then -cr else 0) ≤ (subAt l i).bal + -am ∧ (subAt l i).bal + -am ≤ 1000000000000000
      · rw [inB_true.2 hyes, if_pos (show true = true from rfl), if_neg]
        rintro ⟨g1, g2⟩
        rw [hid] at g2
        by_cases h1' : id = 1
        · rw [if_pos h1'] at hyes
          rcases g2 with g2 | g2
          · exact g2 h1'
          · omega
        · rw [if_neg h1'] at hyes; omega
      · rw [inB_false.2 hyes, if_neg (show ¬ false = true by decide), if_pos]
        by_cases h1' : id = 1
        · rw [if_pos h1'] at hyes; exact ⟨by omega, Or.inr (by omega)⟩
        · rw [if_neg h1'] at hyes; exact ⟨by omega, Or.inl (by rw [hid]; exact h1')⟩
theorem addP_at {l : List SubA} {id d : Int} {x : Int} {j : Nat} (hx : atS l x = some j) (hne : x ≠ id) : subAt (addP l id d) j = subAt l j := by
  unfold addP
  cases hat : atS l id with
  | none => rfl
  | some i =>
    have hi := atS_some hat
    have hj := atS_some hx
    rw [bump_at _ _ _ _ hj.1, if_neg]
    intro e
    exact hne (by rw [← hj.2.1, e, hi.2.1])
theorem giveM_bears {cr : Int} {l : List SubA} {f d id am : Int} (hb : Bals cr l) (hn : NoZero l) (hc : 0 ≤ cr) (ha : 0 ≤ am) (hne : f ≠ id) (hs : id = 0 ∨ (atS l id).isSome = true) : giveM (addP l f d) id am = if bearsM cr l id am = true then some (addP (addP l f d) id am) else none := by
  unfold giveM bearsM
  have hids := atS_ids id (addP_ids l f d)
  by_cases h0 : id = 0
  · subst h0
    have hf : atS l 0 = none := atS_none.2 fun s hs => hn s hs
    rw [hids, hf, if_pos rfl]
    unfold addP
    rw [if_pos rfl]
    have hids' := atS_ids 0 (addP_ids l f d)
    unfold addP at hids'
    rw [hf] at hids'
    rw [hids']
  · rw [if_neg h0]
    cases hat : atS l id with
    | none => rw [hat] at hs; rcases hs with h | h; exact absurd h h0; cases h
    | some i =>
      have hi := atS_some hat
      have hbi := hb _ (List.getElem_mem hi.1)
      rw [← subAt_get hi.1] at hbi
      have hval := addP_at (d := d) hat hne.symm
      rw [hids, hat]
      simp only
      rw [hval]
      have hadd : addP (addP l f d) id am = bump (addP l f d) i am := by
        conv => lhs; unfold addP
        have h2 := hids
        rw [hat] at h2
        unfold addP at h2 ⊢
        rw [h2]
      rw [hadd]
      unfold leastM
      have h2 : (if id = 1 then -cr else 0) ≤ (subAt l i).bal + am := by
        rcases hbi.1 with h | ⟨h, h'⟩
        · split <;> omega
        · rw [hi.2.1] at h
          rw [if_pos h]
          omega
      by_cases hyes : (subAt l i).bal + am ≤ 1000000000000000
      · have hq := inB_true.2 ⟨h2, hyes⟩
        simp only [hq, if_true]
        rw [if_neg (by omega)]
      · have hq := inB_false.2 (fun h : (if id = 1 then -cr else 0) ≤ (subAt l i).bal + am ∧ (subAt l i).bal + am ≤ 1000000000000000 => hyes h.2)
        simp only [hq, Bool.false_eq_true, if_false]
        rw [if_pos (by omega)]

theorem addM_carry {cr : Int} {l : List SubA} {last e : Ent} (hf : faultE l last e = 0) (hb : Bals cr l) (hc : 0 ≤ cr) (hn : NoZero l) : addM cr l last e = if bearsM cr l e.frm (-e.amount) = true then (if bearsM cr l e.to e.amount = true then .ok (addP (addP l e.frm (-e.amount)) e.to e.amount) else .error 61) else .error 61 := by
  obtain ⟨_, _, _, h4, _, h6, h7, h8⟩ := faultE_zero hf
  unfold addM
  rw [if_pos hf, takeM_bears hb hn hc (by omega) h7]
  by_cases h1 : bearsM cr l e.frm (-e.amount) = true
  · rw [if_pos h1, if_pos h1]
    simp only
    rw [giveM_bears hb hn hc (by omega) h6 h8]
    by_cases h2 : bearsM cr l e.to e.amount = true
    · rw [if_pos h2, if_pos h2]
    · rw [if_neg h2, if_neg h2]
  · rw [if_neg h1, if_neg h1]

/-- The balances that all entries make. -/
def repM (cr : Int) : List Ent → List SubA → Ent → Option (List SubA)
  | [], l, _ => some l
  | e :: es, l, last => match addM cr l last e with
    | .error _ => none
    | .ok m => repM cr es m e
theorem rep_until {cr : Int} : ∀ {es : List Ent} {l : List SubA} {last : Ent}, daysM es = true → repM cr es l last = match untilM cr 36000 es l last with
    | .error _ => none
    | .ok m => some m
  | [], l, _, _ => rfl
  | e :: es, l, last, h => by
    simp only [daysM, List.all_cons, Bool.and_eq_true] at h
    have hx := (inB_true.1 h.1).2
    simp only [repM, untilM, if_neg (show ¬ (36000 : Int) < e.day by omega)]
    cases addM cr l last e with
    | error c => rfl
    | ok m => exact rep_until h.2
theorem rep_days {cr : Int} : ∀ {es : List Ent} {l : List SubA} {last : Ent}, daysM es = false → repM cr es l last = none
  | [], _, _, h => by cases h
  | e :: es, l, last, h => by
    simp only [repM]
    cases ha : addM cr l last e with
    | error c => rfl
    | ok m =>
      have hf := (faultE_zero (addM_parts ha).1).2.2.1
      have hd : dayB' e.day = true := inB_true.2 hf
      exact rep_days (by
        unfold daysM at h ⊢
        rw [List.all_cons, hd, Bool.true_and] at h
        exact h)

def replayM (a : Acc) : Option (List SubA) := if amtB a.credit = true then (if idsM a.subs = true then repM a.credit a.ents (emptyM a.subs) Ent.zero else none) else none
theorem check_replay (a : Acc) : checkM a = if 20 < a.subs.length then 3 else if 400 < a.ents.length then 3 else match replayM a with
    | none => 62
    | some l => if sameL l a.subs = true then 0 else 62 := by
  unfold checkM replayM plainM
  by_cases h1 : 20 < a.subs.length
  · rw [if_pos (Or.inl h1), if_pos h1]
  · rw [if_neg h1]
    by_cases h2 : 400 < a.ents.length
    · rw [if_pos (Or.inr h2), if_pos h2]
    · rw [if_neg (by omega), if_neg h2]
      cases hc : amtB a.credit with
      | false => rfl
      | true =>
        cases hi : idsM a.subs with
        | false => rfl
        | true =>
          simp only [Bool.and_self, Bool.true_eq_false, if_false, if_true]
          cases hd : daysM a.ents with
          | false => rw [rep_days hd]; rfl
          | true =>
            rw [rep_until hd]
            simp only [Bool.true_eq_false, if_false]
            cases untilM a.credit 36000 a.ents (emptyM a.subs) Ent.zero <;> rfl

/-- IDs that ascend from 1, up to 1000, as numbers. -/
def okV (l : List Int) (i : Nat) : Prop := l.getD i 0 ≤ 1000 ∧ (0 < i → l.getD (i - 1) 0 < l.getD i 0)
instance (l : List Int) (i : Nat) : Decidable (okV l i) := by unfold okV; infer_instance
def idsV (l : List Int) : Bool := decide ((∀ i, i < l.length → okV l i) ∧ 1 ≤ l.length ∧ l.getD 0 0 = 1)
theorem idsV_true {l : List Int} : idsV l = true ↔ (∀ i, i < l.length → okV l i) ∧ 1 ≤ l.length ∧ l.getD 0 0 = 1 := by
  unfold idsV
  rw [decide_eq_true_eq]
theorem getD_ids (l : List SubA) {i : Nat} (h : i < l.length) : (l.map SubA.id).getD i 0 = (subAt l i).id := by
  rw [subAt_get h, List.getD_eq_getElem?_getD, List.getElem?_map, List.getElem?_eq_getElem h]
  rfl
theorem idsV_ids (l : List SubA) : idsV (l.map SubA.id) = idsM l := by
  have key : idsV (l.map SubA.id) = true ↔ idsM l = true := by
    rw [idsV_true]
    unfold idsM okV
    rw [decide_eq_true_eq, List.length_map]
    constructor
    · rintro ⟨h1, h2, h3⟩
      rw [getD_ids l (by omega)] at h3
      have h4 : ∀ i, i < l.length → 1 ≤ (subAt l i).id := by
        intro i
        induction i with
        | zero => intro _; omega
        | succ k ih =>
          intro hk
          have := ih (by omega)
          have h5 := (h1 (k + 1) hk).2 (by omega)
          rw [Nat.add_sub_cancel, getD_ids l (by omega), getD_ids l hk] at h5
          omega
      refine ⟨h2, h3, fun i hi => ⟨h4 i hi, ?_⟩, fun i hi h0 => ?_⟩
      · have := (h1 i hi).1
        rw [getD_ids l hi] at this
        exact this
      · have := (h1 i hi).2 h0
        rw [getD_ids l (by omega), getD_ids l hi] at this
        exact this
    · rintro ⟨h1, h2, h3, h4⟩
      refine ⟨fun i hi => ⟨?_, fun h0 => ?_⟩, h1, ?_⟩
      · rw [getD_ids l hi]; exact (h3 i hi).2
      · rw [getD_ids l (by omega), getD_ids l hi]; exact h4 i hi h0
      · rw [getD_ids l (by omega)]; exact h2
  cases h1 : idsV (l.map SubA.id) with
  | true => exact (key.1 h1).symm
  | false =>
    cases h2 : idsM l with
    | false => rfl
    | true => rw [key.2 h2] at h1; cases h1
def zerosV (l : List Int) : List SubA := l.map fun i => ⟨i, 0⟩
theorem zerosV_ids (l : List SubA) : zerosV (l.map SubA.id) = emptyM l := by
  unfold zerosV emptyM
  rw [List.map_map]
  rfl
theorem idsV_zeros (l : List Int) : idsM (zerosV l) = idsV l := by
  rw [← idsV_ids]
  congr 1
  unfold zerosV
  rw [List.map_map]
  exact List.map_id l
theorem openM_any (ids : List Int) (cr : Int) : openM ids cr = if amtB cr = false then .error 2 else if 20 < ids.length then .error 3 else if idsV ids = true then .ok ⟨cr, zerosV ids, []⟩ else .error 60 := by
  unfold openM plainM
  rw [← idsV_zeros]
  unfold zerosV
  by_cases h : amtB cr = false
  · rw [if_pos h, if_pos h]
  · rw [if_neg h, if_neg h]
    have : amtB cr = true := by simpa using h
    simp only [this, Bool.true_and]

/-- Entries of some days. -/
def daysL (p : Ent → Bool) (l : List Ent) : List Ent := l.filter p
def carryL (l : List SubA) (es : List Ent) : List SubA := es.foldl (fun m e => addP (addP m e.frm (-e.amount)) e.to e.amount) l
theorem carryL_snoc (l : List SubA) (es : List Ent) (e : Ent) : carryL l (es ++ [e]) = addP (addP (carryL l es) e.frm (-e.amount)) e.to e.amount := by
  unfold carryL
  rw [List.foldl_append]
  rfl
theorem carryL_len (l : List SubA) : ∀ es : List Ent, (carryL l es).map SubA.id = l.map SubA.id := by
  intro es
  unfold carryL
  induction es generalizing l with
  | nil => rfl
  | cons e es ih =>
    rw [List.foldl_cons, ih, addP_ids, addP_ids]
theorem late_none {k : Int} : ∀ {l : List Ent} {last : Int}, days last l → k < last → l.filter (fun e => decide (e.day ≤ k)) = []
  | [], _, _, _ => rfl
  | e :: l, last, h, hk => by
    obtain ⟨h1, h2⟩ := h
    rw [List.filter_cons, if_neg (by simp; omega)]
    exact late_none h2 (by omega)
theorem until_carry {cr k : Int} : ∀ {es : List Ent} {l m : List SubA} {last : Ent}, untilM cr k es l last = .ok m → days last.day es → carryL l (es.filter fun e => decide (e.day ≤ k)) = m
  | [], l, m, _, h, _ => by injection h
  | e :: es, l, m, last, h, hd => by
    unfold untilM at h
    split at h
    · rename_i hk
      injection h with h
      rw [late_none (l := e :: es) (last := e.day) ⟨Int.le_refl _, hd.2⟩ hk]
      exact h
    · rename_i hk
      split at h
      · cases h
      · rename_i l' hl
        rw [List.filter_cons, if_pos (by simp; omega)]
        show carryL (addP (addP l e.frm (-e.amount)) e.to e.amount) _ = m
        rw [← addM_ok hl]
        exact until_carry h hd.2
theorem right_carry {a : Acc} (h : checkM a = 0) (k : Int) : untilM a.credit k a.ents (emptyM a.subs) Ent.zero = .ok (carryL (emptyM a.subs) (a.ents.filter fun e => decide (e.day ≤ k))) := by
  obtain ⟨_, _, _, h4, h5⟩ := checkM_zero.1 h
  obtain ⟨m, hm⟩ := untilM_day (k := k) h5 h4
  rw [hm, until_carry hm (untilM_days h5 h4)]

def inL : List Ent → Int
  | [] => 0
  | e :: l => inE e + inL l
def outL : List Ent → Int
  | [] => 0
  | e :: l => outE e + outL l
theorem inL_snoc (e : Ent) : ∀ l : List Ent, inL (l ++ [e]) = inL l + inE e
  | [] => by simp [inL]
  | x :: l => by simp only [List.cons_append, inL, inL_snoc e l]; omega
theorem outL_snoc (e : Ent) : ∀ l : List Ent, outL (l ++ [e]) = outL l + outE e
  | [] => by simp [outL]
  | x :: l => by simp only [List.cons_append, outL, outL_snoc e l]; omega
theorem flow_filter (a b : Int) : ∀ l : List Ent, inL (l.filter fun e => decide (a ≤ e.day) && decide (e.day ≤ b)) = flowI a b l ∧ outL (l.filter fun e => decide (a ≤ e.day) && decide (e.day ≤ b)) = flowO a b l
  | [] => ⟨rfl, rfl⟩
  | e :: l => by
    obtain ⟨i1, i2⟩ := flow_filter a b l
    rw [List.filter_cons]
    simp only [flowI, flowO]
    by_cases h : a ≤ e.day ∧ e.day ≤ b
    · rw [if_pos (by simp; exact h), if_pos h, if_pos h]
      simp only [inL, outL, i1, i2]
      exact ⟨trivial, trivial⟩
    · rw [if_neg (by simp; omega), if_neg h, if_neg h, i1, i2]
      omega

end Go.Proofs.Ytoelidndnajedab
