/- The single account, as mathematics: sums of balances and flows of entries, balances of a day, bounds of balances; of no function of the program; no condition. -/
import Derived.Test.YtoelidndnajedaaAcM
namespace Go.Proofs.Ytoelidndnajedaa
open Go.RowKit Go.Lib Go.Proofs

theorem sumM_cons (s : SubA) (l : List SubA) : sumM (s :: l) = s.bal + sumM l := by simp [sumM]
theorem sumM_nil : sumM [] = 0 := rfl
theorem sumM_bump : ∀ (l : List SubA) (i : Nat) (d : Int), i < l.length → sumM (bump l i d) = sumM l + d
  | [], _, _, h => by simp at h
  | s :: l, 0, d, _ => by
    show sumM (⟨s.id, s.bal + d⟩ :: l) = _
    rw [sumM_cons, sumM_cons]
    show s.bal + d + sumM l = _
    omega
  | s :: l, i + 1, d, h => by
    have ih := sumM_bump l i d (by simpa using h)
    show sumM (s :: bump l i d) = _
    rw [sumM_cons, sumM_cons, ih]
    omega

/-- No sub-account has the ID 0. -/
def NoZero (l : List SubA) : Prop := ∀ s ∈ l, s.id ≠ 0
theorem noZero_of_ids {l m : List SubA} (h : l.map SubA.id = m.map SubA.id) (hl : NoZero l) : NoZero m := fun s hs e => by
  have : (0 : Int) ∈ m.map SubA.id := List.mem_map.2 ⟨s, hs, e⟩
  rw [← h] at this
  obtain ⟨t, ht, e2⟩ := List.mem_map.1 this
  exact hl t ht e2
theorem noZero_plain {a : Acc} (h : plainM a = true) : NoZero a.subs := fun s hs e => by
  unfold plainM idsM at h
  simp only [Bool.and_eq_true, decide_eq_true_eq] at h
  obtain ⟨i, hi, rfl⟩ := List.getElem_of_mem hs
  have := (h.2.2.2.1 i hi).1
  rw [subAt_get hi] at this
  omega

theorem takeM_sum {credit : Int} {l m : List SubA} {id amount : Int} (h : takeM credit l id amount = some m) (hn : NoZero l) (hs : id = 0 ∨ (atS l id).isSome = true) : sumM m = sumM l - (if id = 0 then 0 else amount) := by
  unfold takeM at h
  split at h
  · rename_i hat
    injection h with h
    subst h
    rcases hs with rfl | hs
    · simp
    · rw [hat] at hs; cases hs
  · rename_i i hat
    have hi := atS_some hat
    have h0 : id ≠ 0 := fun e => by
      have := hn _ (List.getElem_mem hi.1)
      rw [← subAt_get hi.1, hi.2.1] at this
      exact this e
    split at h
    · cases h
    · injection h with h
      subst h
      rw [sumM_bump _ _ _ hi.1, if_neg h0]
      omega
theorem giveM_sum {l m : List SubA} {id amount : Int} (h : giveM l id amount = some m) (hn : NoZero l) (hs : id = 0 ∨ (atS l id).isSome = true) : sumM m = sumM l + (if id = 0 then 0 else amount) := by
  unfold giveM at h
  split at h
  · rename_i hat
    injection h with h
    subst h
    rcases hs with rfl | hs
    · simp
    · rw [hat] at hs; cases hs
  · rename_i i hat
    have hi := atS_some hat
    have h0 : id ≠ 0 := fun e => by
      have := hn _ (List.getElem_mem hi.1)
      rw [← subAt_get hi.1, hi.2.1] at this
      exact this e
    split at h
    · cases h
    · injection h with h
      subst h
      rw [sumM_bump _ _ _ hi.1, if_neg h0]

/-- What an entry brings from outside, and what it takes there. -/
def inE (e : Ent) : Int := if e.frm = 0 then e.amount else 0
def outE (e : Ent) : Int := if e.to = 0 then e.amount else 0
theorem addM_sum {credit : Int} {l m : List SubA} {last e : Ent} (h : addM credit l last e = .ok m) (hn : NoZero l) : sumM m = sumM l + inE e - outE e := by
  obtain ⟨hf, l1, h1, h2⟩ := addM_parts h
  obtain ⟨_, _, _, _, _, hne, hs1, hs2⟩ := faultE_zero hf
  have hid1 := takeM_ids h1
  have e1 := takeM_sum h1 hn hs1
  have e2 := giveM_sum h2 (noZero_of_ids hid1.symm hn) (by rw [atS_ids _ hid1]; exact hs2)
  rw [e2, e1]
  unfold inE outE
  by_cases a : e.frm = 0
  · have b : e.to ≠ 0 := fun e' => hne (a.trans e'.symm)
    simp only [if_pos a, if_neg b]
    omega
  · by_cases b : e.to = 0
    · simp only [if_neg a, if_pos b]
      omega
    · simp only [if_neg a, if_neg b]
      omega

def flowI (a b : Int) : List Ent → Int
  | [] => 0
  | e :: l => (if a ≤ e.day ∧ e.day ≤ b then inE e else 0) + flowI a b l
def flowO (a b : Int) : List Ent → Int
  | [] => 0
  | e :: l => (if a ≤ e.day ∧ e.day ≤ b then outE e else 0) + flowO a b l
theorem flowI_snoc (a b : Int) (e : Ent) : ∀ l : List Ent, flowI a b (l ++ [e]) = flowI a b l + (if a ≤ e.day ∧ e.day ≤ b then inE e else 0)
  | [] => by simp [flowI]
  | x :: l => by simp only [List.cons_append, flowI, flowI_snoc a b e l]; omega
theorem flowO_snoc (a b : Int) (e : Ent) : ∀ l : List Ent, flowO a b (l ++ [e]) = flowO a b l + (if a ≤ e.day ∧ e.day ≤ b then outE e else 0)
  | [] => by simp [flowO]
  | x :: l => by simp only [List.cons_append, flowO, flowO_snoc a b e l]; omega
theorem flowI_split (a k b : Int) (h1 : a ≤ k + 1) (h2 : k ≤ b) : ∀ l : List Ent, flowI a k l + flowI (k + 1) b l = flowI a b l
  | [] => rfl
  | x :: l => by
    have ih := flowI_split a k b h1 h2 l
    simp only [flowI]
    by_cases c1 : a ≤ x.day ∧ x.day ≤ k
    · rw [if_pos c1, if_neg (by omega), if_pos (by omega)]; omega
    · by_cases c2 : k + 1 ≤ x.day ∧ x.day ≤ b
      · rw [if_neg c1, if_pos c2, if_pos (by omega)]; omega
      · rw [if_neg c1, if_neg c2, if_neg (by omega)]; omega
theorem flowO_split (a k b : Int) (h1 : a ≤ k + 1) (h2 : k ≤ b) : ∀ l : List Ent, flowO a k l + flowO (k + 1) b l = flowO a b l
  | [] => rfl
  | x :: l => by
    have ih := flowO_split a k b h1 h2 l
    simp only [flowO]
    by_cases c1 : a ≤ x.day ∧ x.day ≤ k
    · rw [if_pos c1, if_neg (by omega), if_pos (by omega)]; omega
    · by_cases c2 : k + 1 ≤ x.day ∧ x.day ≤ b
      · rw [if_neg c1, if_pos c2, if_pos (by omega)]; omega
      · rw [if_neg c1, if_neg c2, if_neg (by omega)]; omega

/-- The entries that are not too late: all of them, where the days ascend. -/
def days (last : Int) : List Ent → Prop
  | [] => True
  | e :: l => last ≤ e.day ∧ days e.day l
theorem flow_late {a k : Int} : ∀ {l : List Ent} {last : Int}, days last l → k < last → flowI a k l = 0 ∧ flowO a k l = 0
  | [], _, _, _ => ⟨rfl, rfl⟩
  | e :: l, last, h, hk => by
    obtain ⟨h1, h2⟩ := h
    obtain ⟨i1, i2⟩ := flow_late (a := a) (k := k) h2 (by omega)
    simp only [flowI, flowO]
    rw [if_neg (by omega), if_neg (by omega), i1, i2]
    exact ⟨rfl, rfl⟩

/-- What entries make of balances: the sum grows by what comes from outside, less what goes there, up to the day. -/
theorem untilM_sum {credit k : Int} : ∀ {es : List Ent} {l m : List SubA} {last : Ent}, untilM credit k es l last = .ok m → NoZero l → days last.day es → 0 ≤ last.day → sumM m = sumM l + flowI 0 k es - flowO 0 k es
  | [], l, m, last, h, _, _, _ => by injection h with h; rw [h]; simp [flowI, flowO]
  | e :: es, l, m, last, h, hn, hd, h0 => by
    unfold untilM at h
    split at h
    · rename_i hk
      injection h with h
      subst h
      obtain ⟨f1, f2⟩ := flow_late (a := 0) (k := k) (l := e :: es) (last := e.day) ⟨Int.le_refl _, hd.2⟩ hk
      rw [f1, f2]
      omega
    · rename_i hk
      split at h
      · cases h
      · rename_i l' hl
        have hs := addM_sum hl hn
        have h1 := hd.1
        have ih := untilM_sum h (noZero_of_ids (addM_ids hl).symm hn) hd.2 (by omega)
        simp only [flowI, flowO]
        rw [if_pos (by omega), if_pos (by omega), ih, hs]
        omega

/-- Where all entries are possible, their days ascend. -/
theorem untilM_days {credit : Int} : ∀ {es : List Ent} {l m : List SubA} {last : Ent}, untilM credit 36000 es l last = .ok m → daysM es = true → days last.day es
  | [], _, _, _, _, _ => trivial
  | e :: es, l, m, last, h, hd => by
    simp only [daysM, List.all_cons, Bool.and_eq_true] at hd
    have hx := (inB_true.1 hd.1).2
    unfold untilM at h
    rw [if_neg (by omega)] at h
    split at h
    · cases h
    · rename_i l' hl
      have hf := faultE_zero (addM_parts hl).1
      exact ⟨hf.2.1, untilM_days h hd.2⟩

/-- And up to a day they are possible, too. -/
theorem untilM_day {credit k : Int} : ∀ {es : List Ent} {l m : List SubA} {last : Ent}, untilM credit 36000 es l last = .ok m → daysM es = true → ∃ m', untilM credit k es l last = .ok m'
  | [], l, _, _, _, _ => ⟨l, rfl⟩
  | e :: es, l, m, last, h, hd => by
    simp only [daysM, List.all_cons, Bool.and_eq_true] at hd
    have hx := (inB_true.1 hd.1).2
    unfold untilM at h ⊢
    rw [if_neg (by omega)] at h
    split
    · exact ⟨l, rfl⟩
    · split at h
      · cases h
      · rename_i l' hl
        exact untilM_day h hd.2

/-- No balance but the main one is below 0, that one not below the credit; none is too high. -/
def Bal (credit : Int) (s : SubA) : Prop := (0 ≤ s.bal ∨ (s.id = 1 ∧ -credit ≤ s.bal)) ∧ s.bal ≤ 1000000000000000
def Bals (credit : Int) (l : List SubA) : Prop := ∀ s ∈ l, Bal credit s
theorem bals_set {credit : Int} {l : List SubA} {i : Nat} {s : SubA} (h : Bals credit l) (hs : Bal credit s) : Bals credit (l.set i s) := fun t ht => by
  rcases List.mem_or_eq_of_mem_set ht with ht | rfl
  · exact h t ht
  · exact hs
theorem takeM_bals {credit : Int} {l m : List SubA} {id amount : Int} (h : takeM credit l id amount = some m) (hb : Bals credit l) (ha : 0 ≤ amount) : Bals credit m := by
  unfold takeM at h
  split at h
  · injection h with h; rw [← h]; exact hb
  · rename_i i hat
    have hi := atS_some hat
    split at h
    · cases h
    · rename_i hno
      injection h with h
      subst h
      have hs := hb _ (List.getElem_mem hi.1)
      rw [← subAt_get hi.1] at hs
      refine bals_set hb ⟨?_, ?_⟩
      · show 0 ≤ (subAt l i).bal + -amount ∨ ((subAt l i).id = 1 ∧ -credit ≤ (subAt l i).bal + -amount)
        by_cases h0 : 0 ≤ (subAt l i).bal + -amount
        · exact Or.inl h0
        · refine Or.inr ⟨?_, ?_⟩
          · by_cases h1 : (subAt l i).id = 1
            · exact h1
            · exact absurd ⟨by omega, Or.inl h1⟩ hno
          · by_cases h1 : -credit ≤ (subAt l i).bal + -amount
            · exact h1
            · exact absurd ⟨by omega, Or.inr (by omega)⟩ hno
      · show (subAt l i).bal + -amount ≤ _
        have := hs.2
        omega
theorem giveM_bals {credit : Int} {l m : List SubA} {id amount : Int} (h : giveM l id amount = some m) (hb : Bals credit l) (ha : 0 ≤ amount) : Bals credit m := by
  unfold giveM at h
  split at h
  · injection h with h; rw [← h]; exact hb
  · rename_i i hat
    have hi := atS_some hat
    split at h
    · cases h
    · rename_i hno
      injection h with h
      subst h
      have hs := hb _ (List.getElem_mem hi.1)
      rw [← subAt_get hi.1] at hs
      refine bals_set hb ⟨?_, ?_⟩
      · show 0 ≤ (subAt l i).bal + amount ∨ ((subAt l i).id = 1 ∧ -credit ≤ (subAt l i).bal + amount)
        rcases hs.1 with h0 | ⟨h1, h2⟩
        · exact Or.inl (by omega)
        · exact Or.inr ⟨h1, by omega⟩
      · show (subAt l i).bal + amount ≤ _
        omega
theorem addM_bals {credit : Int} {l m : List SubA} {last e : Ent} (h : addM credit l last e = .ok m) (hb : Bals credit l) : Bals credit m := by
  obtain ⟨hf, l1, h1, h2⟩ := addM_parts h
  have ha := (faultE_zero hf).2.2.2.1
  exact giveM_bals h2 (takeM_bals h1 hb (by omega)) (by omega)
theorem untilM_bals {credit k : Int} : ∀ {es : List Ent} {l m : List SubA} {last : Ent}, untilM credit k es l last = .ok m → Bals credit l → Bals credit m
  | [], l, m, _, h, hb => by injection h with h; rw [← h]; exact hb
  | e :: es, l, m, last, h, hb => by
    unfold untilM at h
    split at h
    · injection h with h; rw [← h]; exact hb
    · split at h
      · cases h
      · rename_i l' hl
        exact untilM_bals h (addM_bals hl hb)
theorem emptyM_bals {credit : Int} (l : List SubA) : Bals credit (emptyM l) := fun s hs => by
  unfold emptyM at hs
  obtain ⟨t, _, rfl⟩ := List.mem_map.1 hs
  exact ⟨Or.inl (Int.le_refl _), by show (0 : Int) ≤ _; omega⟩
theorem emptyM_sum : ∀ l : List SubA, sumM (emptyM l) = 0
  | [] => rfl
  | s :: l => by
    show sumM (⟨s.id, 0⟩ :: emptyM l) = 0
    rw [sumM_cons, emptyM_sum l]
    rfl

/-- Of a right account: its sum is what came from outside less what went there; its balances are in their bounds. -/
theorem right_sum {a : Acc} (h : checkM a = 0) : sumM a.subs = flowI 0 36000 a.ents - flowO 0 36000 a.ents := by
  obtain ⟨_, _, h3, h4, h5⟩ := checkM_zero.1 h
  have := untilM_sum h5 (noZero_of_ids (emptyM_ids _).symm (noZero_plain h3)) (untilM_days h5 h4) (Int.le_refl _)
  rw [emptyM_sum] at this
  omega
theorem right_bals {a : Acc} (h : checkM a = 0) : Bals a.credit a.subs := by
  obtain ⟨_, _, _, _, h5⟩ := checkM_zero.1 h
  exact untilM_bals h5 (emptyM_bals _)

/-- The balances of a day of a right account. -/
theorem right_day {a : Acc} (h : checkM a = 0) (k : Int) : ∃ m, untilM a.credit k a.ents (emptyM a.subs) Ent.zero = .ok m ∧ sumM m = flowI 0 k a.ents - flowO 0 k a.ents ∧ Bals a.credit m ∧ m.map SubA.id = a.subs.map SubA.id := by
  obtain ⟨_, _, h3, h4, h5⟩ := checkM_zero.1 h
  obtain ⟨m, hm⟩ := untilM_day (k := k) h5 h4
  have := untilM_sum hm (noZero_of_ids (emptyM_ids _).symm (noZero_plain h3)) (untilM_days h5 h4) (Int.le_refl _)
  rw [emptyM_sum] at this
  exact ⟨m, hm, by omega, untilM_bals hm (emptyM_bals _), (untilM_ids _ _ _ _ _ _ hm).trans (emptyM_ids _)⟩

end Go.Proofs.Ytoelidndnajedaa
