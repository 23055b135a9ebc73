/- The single account, as mathematics: opening, numbers of entries, when an entry is possible, accounts as the statements make them, the chapter's example; of no function of the program; no condition. -/
import Derived.Test.YtoelidndnajedaaAcS
namespace Go.Proofs.Ytoelidndnajedaa
open Go.RowKit Go.Lib Go.Proofs

def openM (ids : List Int) (credit : Int) : Except Int Acc :=
  if amtB credit = false then .error 2
  else if 20 < ids.length then .error 3
  else if plainM ⟨credit, ids.map fun i => ⟨i, 0⟩, []⟩ = true then .ok ⟨credit, ids.map fun i => ⟨i, 0⟩, []⟩
  else .error 60

theorem openM_right {ids : List Int} {credit : Int} {a : Acc} (h : openM ids credit = .ok a) : checkM a = 0 ∧ a.subs.map SubA.id = ids ∧ a.ents = [] ∧ a.credit = credit := by
  unfold openM at h
  split at h
  · cases h
  · split at h
    · cases h
    · rename_i h2
      split at h
      · rename_i h3
        injection h with h
        subst h
        refine ⟨checkM_zero.2 ⟨by simp; omega, by simp, h3, rfl, ?_⟩, by simp [Function.comp_def], rfl, rfl⟩
        simp [untilM, emptyM, Function.comp_def]
      · cases h

/-- The numbers of entries that are possible follow each other. -/
theorem untilM_numbers {credit : Int} : ∀ {es : List Ent} {l m : List SubA} {last : Ent}, untilM credit 36000 es l last = .ok m → daysM es = true → ((es.getLast?).getD last).number = last.number + es.length
  | [], _, _, last, _, _ => by simp
  | e :: es, l, m, last, h, hd => by
    simp only [daysM, List.all_cons, Bool.and_eq_true] at hd
    have hx := (inB_true.1 hd.1).2
    unfold untilM at h
    rw [if_neg (by omega)] at h
    split at h
    · cases h
    · rename_i l' hl
      have hf := faultE_zero (addM_parts hl).1
      have ih := untilM_numbers h hd.2
      have hg : ((e :: es).getLast?).getD last = (es.getLast?).getD e := by simp [List.getLast?_cons]
      rw [hg, ih, hf.1, List.length_cons]
      omega
theorem right_number {a : Acc} (h : checkM a = 0) : (lastE a.ents).number = a.ents.length := by
  obtain ⟨_, _, _, h4, h5⟩ := checkM_zero.1 h
  have := untilM_numbers h5 h4
  unfold lastE
  rw [this]
  show (0 : Int) + _ = _
  omega

def amtS : List Ent → Int
  | [] => 0
  | e :: l => e.amount + amtS l
/-- No balance is more than all amounts together. -/
theorem addM_top {credit B : Int} {l m : List SubA} {last e : Ent} (h : addM credit l last e = .ok m) (hb : ∀ s ∈ l, s.bal ≤ B) : ∀ s ∈ m, s.bal ≤ B + e.amount := by
  obtain ⟨hf, l1, h1, h2⟩ := addM_parts h
  have ha := (faultE_zero hf).2.2.2.1
  have hb1 : ∀ s ∈ l1, s.bal ≤ B := by
    unfold takeM at h1
    split at h1
    · injection h1 with h1; rw [← h1]; exact hb
    · rename_i i hat
      have hi := atS_some hat
      split at h1
      · cases h1
      · injection h1 with h1
        subst h1
        intro s hs
        have h0 := hb _ (List.getElem_mem hi.1)
        rw [← subAt_get hi.1] at h0
        rcases List.mem_or_eq_of_mem_set hs with hs | rfl
        · exact hb s hs
        · show (subAt l i).bal + -e.amount ≤ B
          omega
  unfold giveM at h2
  split at h2
  · injection h2 with h2; rw [← h2]; intro s hs; have := hb1 s hs; omega
  · rename_i i hat
    have hi := atS_some hat
    split at h2
    · cases h2
    · injection h2 with h2
      subst h2
      intro s hs
      have h0 := hb1 _ (List.getElem_mem hi.1)
      rw [← subAt_get hi.1] at h0
      rcases List.mem_or_eq_of_mem_set hs with hs | rfl
      · have := hb1 s hs; omega
      · show (subAt l1 i).bal + e.amount ≤ _
        omega
theorem untilM_top {credit k : Int} : ∀ {es : List Ent} {l m : List SubA} {last : Ent} {B : Int}, untilM credit k es l last = .ok m → (∀ s ∈ l, s.bal ≤ B) → daysM es = true → k = 36000 → ∀ s ∈ m, s.bal ≤ B + amtS es
  | [], l, m, _, B, h, hb, _, _ => by injection h with h; rw [← h]; intro s hs; have := hb s hs; simp only [amtS]; omega
  | e :: es, l, m, last, B, h, hb, hd, hk => by
    simp only [daysM, List.all_cons, Bool.and_eq_true] at hd
    have hx := (inB_true.1 hd.1).2
    unfold untilM at h
    rw [if_neg (by omega)] at h
    split at h
    · cases h
    · rename_i l' hl
      intro s hs
      have := untilM_top h (addM_top hl hb) hd.2 hk s hs
      simp only [amtS]
      omega
theorem amtS_le {B : Int} : ∀ {l : List Ent}, (∀ e ∈ l, e.amount ≤ B) → amtS l ≤ B * l.length
  | [], _ => by simp [amtS]
  | e :: l, h => by
    have h1 := h e (by simp)
    have h2 := amtS_le (l := l) (fun x hx => h x (by simp [hx]))
    have h3 : B * ((e :: l).length : Int) = B * (l.length : Int) + B := by rw [List.length_cons, Int.natCast_add, Int.mul_add]; simp
    rw [h3]
    simp only [amtS]
    omega

/-- An account as the statements make it: right, of these sub-accounts, of at most k entries of at most B each, up to a day. -/
structure Made (a : Acc) (ids : List Int) (k : Nat) (B d : Int) : Prop where
  right : checkM a = 0
  ids : a.subs.map SubA.id = ids
  len : a.ents.length ≤ k
  amt : ∀ e ∈ a.ents, e.amount ≤ B
  day : (lastE a.ents).day ≤ d

theorem Made.top {a : Acc} {ids : List Int} {k : Nat} {B d : Int} (h : Made a ids k B d) (hB : 0 ≤ B) : ∀ s ∈ a.subs, s.bal ≤ B * k := by
  obtain ⟨_, _, _, h4, h5⟩ := checkM_zero.1 h.right
  intro s hs
  have h1 := untilM_top h5 (B := 0) (fun t ht => by
    unfold emptyM at ht
    obtain ⟨u, _, rfl⟩ := List.mem_map.1 ht
    exact Int.le_refl _) h4 rfl s hs
  have h2 := amtS_le h.amt
  have h3 : B * (a.ents.length : Int) ≤ B * (k : Int) := Int.mul_le_mul_of_nonneg_left (by have := h.len; omega) hB
  omega
theorem Made.more {a : Acc} {ids : List Int} {k k' : Nat} {B d d' : Int} (h : Made a ids k B d) (hk : k ≤ k') (hd : d ≤ d') : Made a ids k' B d' :=
  ⟨h.right, h.ids, Nat.le_trans h.len hk, h.amt, Int.le_trans h.day hd⟩
theorem Made.post {a b : Acc} {ids : List Int} {k : Nat} {B d : Int} {e : Ent} (h : Made a ids k B d) (hp : postM a e = .ok b) (he : e.amount ≤ B) (hd : e.day ≤ d) : Made b ids (k + 1) B d := by
  obtain ⟨_, hb, h1, _, _, h2⟩ := postM_right hp
  refine ⟨hb, (addM_ids h2).trans h.ids, ?_, fun x hx => ?_, ?_⟩
  · rw [h1]; simp; have := h.len; omega
  · rw [h1] at hx
    rcases List.mem_append.1 hx with hx | hx
    · exact h.amt x hx
    · rw [List.mem_singleton] at hx; rw [hx]; exact he
  · rw [h1, lastE_snoc]; exact hd

/-- An entry from outside, of the next number, is possible. -/
theorem post_in {a : Acc} {ids : List Int} {k : Nat} {B d day to amount : Int} (h : Made a ids k B d) (hB : 0 ≤ B) (hk : k < 400) (hd : d ≤ day) (h0 : 0 ≤ day ∧ day ≤ 36000) (ha : 1 ≤ amount ∧ amount ≤ 1000000000000) (hto : to ≠ 0) (hid : to ∈ ids) (hmax : B * k + amount ≤ 1000000000000000) :
    ∃ b, postM a (nextM a.ents day 0 to amount 0) = .ok b := by
  have hz := checkM_zero.1 h.right
  have hn := noZero_plain hz.2.2.1
  have hat : (atS a.subs to).isSome = true := by
    cases hs : atS a.subs to with
    | some i => rfl
    | none =>
      rw [← h.ids] at hid
      obtain ⟨s, hs1, hs2⟩ := List.mem_map.1 hid
      exact absurd hs2 (atS_none.1 hs s hs1)
  have hf0 : atS a.subs 0 = none := atS_none.2 fun s hs => hn s hs
  have hday := h.day
  have hf : faultE a.subs (lastE a.ents) (nextM a.ents day 0 to amount 0) = 0 := by
    unfold faultE nextM dayB' amtB
    simp only
    rw [if_neg (by omega), if_neg (by rw [inB_true.2 h0]; simp; omega), if_neg (by rw [inB_true.2 ⟨by omega, ha.2⟩]; simp; omega), if_neg]
    rintro (e | ⟨e, _⟩ | ⟨_, e⟩)
    · exact hto e.symm
    · exact e rfl
    · rw [e] at hat; cases hat
  have hlen := h.len
  obtain ⟨i, hi⟩ := Option.isSome_iff_exists.1 hat
  have hi' := atS_some hi
  have htop := h.top hB _ (List.getElem_mem hi'.1)
  rw [← subAt_get hi'.1] at htop
  have h1 : takeM a.credit a.subs 0 amount = some a.subs := by unfold takeM; rw [hf0]
  have h2 : giveM a.subs to amount = some (bump a.subs i amount) := by unfold giveM; rw [hi]; exact if_neg (by omega)
  have hadd : addM a.credit a.subs (lastE a.ents) (nextM a.ents day 0 to amount 0) = .ok (bump a.subs i amount) := by
    unfold addM
    rw [if_pos hf]
    simp only [nextM, h1, h2]
  refine ⟨{ a with subs := bump a.subs i amount, ents := a.ents ++ [nextM a.ents day 0 to amount 0] }, ?_⟩
  unfold postM
  rw [if_neg (by rw [h.right]; simp), if_neg (by omega), hadd]

theorem faultE_known {l : List SubA} {last e : Ent} (h : e.number ≠ last.number + 1) : faultE l last e = 65 := if_pos h
theorem faultE_order {l : List SubA} {last e : Ent} (h : e.number = last.number + 1) (h2 : e.day < last.day) : faultE l last e = 8 := (if_neg (fun g => g h)).trans (if_pos (Or.inl h2))
theorem post_fault {a : Acc} {e : Ent} {c : Int} (h : checkM a = 0) (hl : a.ents.length ≠ 400) (hf : faultE a.subs (lastE a.ents) e = c) (hc : c ≠ 0) : postM a e = .error c := by
  unfold postM
  rw [if_neg (by rw [h]; simp), if_neg hl]
  unfold addM
  rw [if_neg (by rw [hf]; exact hc), hf]

/-! ### The chapter's example -/
def exAcc : Acc := ⟨0, [⟨1, 0⟩, ⟨2, 0⟩], []⟩
def exEnt : Ent := ⟨1, 0, 0, 2, 5, 0⟩
def exAcc2 : Acc := ⟨0, [⟨1, 0⟩, ⟨2, 5⟩], [exEnt]⟩
theorem ex_open : openM [1, 2] 0 = .ok exAcc := rfl
theorem ex_next : nextM exAcc.ents 0 0 2 5 0 = exEnt := rfl
theorem ex_next2 : nextM exAcc.ents 0 2 0 5 0 = ⟨1, 0, 2, 0, 5, 0⟩ := rfl
theorem ex_no : postM exAcc ⟨1, 0, 2, 0, 5, 0⟩ = .error 61 := rfl
theorem ex_yes : postM exAcc exEnt = .ok exAcc2 := rfl
theorem ex_bal : balanceM exAcc2 2 = (5, true) := rfl
theorem ex_total : totalM exAcc2 = 5 := rfl

end Go.Proofs.Ytoelidndnajedaa
