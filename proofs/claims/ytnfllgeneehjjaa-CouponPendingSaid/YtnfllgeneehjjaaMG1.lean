/- Texts of one claim, merged: RhM, RhN. -/
import Derived.Test.YtnfllgeneehjjaaMRowL
import Derived.Test.YtnfllgeneehjjaaMSec
/- Registers, as mathematics: holdings in their order, moves, what they make; of no function of the program; no condition. -/
set_option linter.unusedSimpArgs false
set_option linter.unusedVariables false
namespace Go.Proofs.Ytnfllgeneehjjaa
open Go.RowKit Go.Lib Go.Proofs

structure Hld where
  sec : Int
  who : Int
  amt : Int
deriving DecidableEq
def Hld.zero : Hld := ⟨0, 0, 0⟩
def hldC (h : Hld) : List Value := [.int .i64 h.sec, .int .i64 h.who, .int .i64 h.amt]
theorem hldF : Fields hldC 3 := ⟨fun _ => rfl, fun _ u hu => by simp only [hldC, List.mem_cons, List.mem_nil_iff, or_false] at hu; rcases hu with rfl | rfl | rfl <;> rfl, by decide⟩
structure Mv where
  num : Int
  day : Int
  kind : Int
  sec : Int
  frm : Int
  «to» : Int
  amt : Int
def Mv.zero : Mv := ⟨0, 0, 0, 0, 0, 0, 0⟩
def mvC (m : Mv) : List Value := [.int .i64 m.num, .int .i64 m.day, .int .i64 m.kind, .int .i64 m.sec, .int .i64 m.frm, .int .i64 m.to, .int .i64 m.amt]
theorem mvF : Fields mvC 7 := ⟨fun _ => rfl, fun _ u hu => by simp only [mvC, List.mem_cons, List.mem_nil_iff, or_false] at hu; rcases hu with rfl | rfl | rfl | rfl | rfl | rfl | rfl <;> rfl, by decide⟩
theorem secF : Fields Sec.cells 7 := ⟨fun _ => rfl, fun _ u hu => by simp only [Sec.cells, List.mem_cons, List.mem_nil_iff, or_false] at hu; rcases hu with rfl | rfl | rfl | rfl | rfl | rfl | rfl <;> rfl, by decide⟩

/-! ### Holdings -/
def hlt (a b : Hld) : Prop := a.sec < b.sec ∨ (a.sec = b.sec ∧ a.who < b.who)
structure HldOk (h : Hld) : Prop where
  sec : 1 ≤ h.sec ∧ h.sec ≤ 1000
  who : 1 ≤ h.who ∧ h.who ≤ 1000
  amt : 1 ≤ h.amt ∧ h.amt ≤ 1000000000000
structure HsOk (l : List Hld) : Prop where
  asc : l.Pairwise hlt
  ok : ∀ h ∈ l, HldOk h
theorem hsOk_nil : HsOk [] := ⟨List.Pairwise.nil, fun h hh => by simp at hh⟩
theorem HsOk.tail {h : Hld} {l : List Hld} (k : HsOk (h :: l)) : HsOk l := ⟨(List.pairwise_cons.1 k.asc).2, fun x hx => k.ok x (List.mem_cons_of_mem _ hx)⟩
/-- The sum of the holdings that are wanted. -/
def sumH (p : Hld → Bool) : List Hld → Int
  | [] => 0
  | h :: l => (if p h then h.amt else 0) + sumH p l
theorem sumH_app (p : Hld → Bool) : ∀ l m : List Hld, sumH p (l ++ m) = sumH p l + sumH p m
  | [], m => by simp [sumH]
  | h :: l, m => by simp only [List.cons_append, sumH, sumH_app p l m]; omega
theorem sumH_bound {p : Hld → Bool} : ∀ {l : List Hld}, (∀ h ∈ l, HldOk h) → 0 ≤ sumH p l ∧ sumH p l ≤ 1000000000000 * (l.length : Int)
  | [], _ => by simp [sumH]
  | h :: l, k => by
    have ih := sumH_bound (p := p) (l := l) fun x hx => k x (List.mem_cons_of_mem _ hx)
    have h1 := (k h List.mem_cons_self).amt
    simp only [sumH, List.length_cons]
    split <;> omega
def isAt (id who : Int) (h : Hld) : Bool := h.sec == id && h.who == who
def isOf (id : Int) (h : Hld) : Bool := h.sec == id
def heldM (l : List Hld) (id who : Int) : Int := sumH (isAt id who) l
def outM (l : List Hld) (id : Int) : Int := sumH (isOf id) l
def debtM (l : List Hld) : Int := sumH (fun _ => true) l

/-- What a holder has of a security changes by an amount; nothing stands there for 0. -/
def setM (id who n : Int) : List Hld → List Hld
  | [] => if n = 0 then [] else [⟨id, who, n⟩]
  | h :: l =>
    if h.sec < id ∨ (h.sec = id ∧ h.who < who) then h :: setM id who n l
    else if h.sec = id ∧ h.who = who then (if h.amt + n = 0 then l else ⟨id, who, h.amt + n⟩ :: l)
    else if n = 0 then h :: l else ⟨id, who, n⟩ :: h :: l
theorem sumH_set {p : Hld → Bool} (hp : ∀ a b : Hld, a.sec = b.sec → a.who = b.who → p a = p b) (id who n : Int) : ∀ l : List Hld, sumH p (setM id who n l) = sumH p l + (if p ⟨id, who, 0⟩ then n else 0)
  | [] => by
    unfold setM
    split
    · rename_i h; subst h; simp [sumH]
    · simp only [sumH]
      rw [hp ⟨id, who, n⟩ ⟨id, who, 0⟩ rfl rfl]; omega
  | h :: l => by
    unfold setM
    split
    · simp only [sumH]; rw [sumH_set hp id who n l]; omega
    · split
      · rename_i h2
        have e : p h = p ⟨id, who, 0⟩ := hp _ _ h2.1 h2.2
        split
        · rename_i h3
          simp only [sumH, e]
          split <;> omega
        · simp only [sumH, e]
          rw [hp ⟨id, who, h.amt + n⟩ ⟨id, who, 0⟩ rfl rfl]
          split <;> omega
      · split
        · rename_i h3; subst h3; simp [sumH]
        · simp only [sumH]
          rw [hp ⟨id, who, n⟩ ⟨id, who, 0⟩ rfl rfl]; omega
theorem heldM_set (id who n i w : Int) (l : List Hld) : heldM (setM id who n l) i w = heldM l i w + (if id = i ∧ who = w then n else 0) := by
  unfold heldM
  rw [sumH_set (fun a b h1 h2 => by simp [isAt, h1, h2])]
  simp [isAt]
theorem outM_set (id who n i : Int) (l : List Hld) : outM (setM id who n l) i = outM l i + (if id = i then n else 0) := by
  unfold outM
  rw [sumH_set (fun a b h1 h2 => by simp [isOf, h1])]
  simp [isOf]
theorem debtM_set (id who n : Int) (l : List Hld) : debtM (setM id who n l) = debtM l + n := by
  unfold debtM
  rw [sumH_set (fun a b h1 h2 => rfl)]
  simp
theorem setM_len (id who n : Int) : ∀ l : List Hld, (setM id who n l).length ≤ l.length + 1
  | [] => by unfold setM; split <;> simp
  | h :: l => by
    unfold setM
    have := setM_len id who n l
    repeat' split
    all_goals simp only [List.length_cons]
    all_goals omega
/-- Nothing of a smaller key, and of the key itself once. -/
theorem heldM_low {id who : Int} : ∀ {l : List Hld}, (∀ h ∈ l, hlt ⟨id, who, 0⟩ h) → heldM l id who = 0
  | [], _ => rfl
  | h :: l, k => by
    have h1 := k h List.mem_cons_self
    have h2 : isAt id who h = false := by
      unfold isAt
      rcases h1 with h1 | ⟨h1, h3⟩
      · simp only at h1; rw [beq_eq_false_iff_ne.2 (show h.sec ≠ id by omega)]; rfl
      · simp only at h3; rw [beq_eq_false_iff_ne.2 (show h.who ≠ who by omega)]; simp
    unfold heldM sumH
    rw [h2]
    have := heldM_low (id := id) (who := who) (l := l) fun x hx => k x (List.mem_cons_of_mem _ hx)
    unfold heldM at this
    simp [this]
theorem hlt_trans {a b c : Hld} (h : hlt a b) (k : hlt b c) : hlt a c := by unfold hlt at *; omega
theorem setM_mem {id who n : Int} {x : Hld} : ∀ {l : List Hld}, x ∈ setM id who n l → x ∈ l ∨ (x.sec = id ∧ x.who = who)
  | [], h => by
    unfold setM at h
    split at h
    · simp at h
    · simp at h; exact Or.inr (by rw [h]; exact ⟨rfl, rfl⟩)
  | a :: l, h => by
    unfold setM at h
    split at h
    · rcases List.mem_cons.1 h with h | h
      · exact Or.inl (by rw [h]; exact List.mem_cons_self)
      · rcases setM_mem h with h | h
        · exact Or.inl (List.mem_cons_of_mem _ h)
        · exact Or.inr h
    · split at h
      · split at h
        · exact Or.inl (List.mem_cons_of_mem _ h)
        · rcases List.mem_cons.1 h with h | h
          · exact Or.inr (by rw [h]; exact ⟨rfl, rfl⟩)
          · exact Or.inl (List.mem_cons_of_mem _ h)
      · split at h
        · exact Or.inl h
        · rcases List.mem_cons.1 h with h | h
          · exact Or.inr (by rw [h]; exact ⟨rfl, rfl⟩)
          · exact Or.inl h
theorem setM_asc {id who n : Int} : ∀ {l : List Hld}, l.Pairwise hlt → (setM id who n l).Pairwise hlt
  | [], _ => by unfold setM; split <;> simp
  | a :: l, h => by
    have h1 := List.pairwise_cons.1 h
    unfold setM
    split
    · rename_i hc
      refine List.pairwise_cons.2 ⟨fun x hx => ?_, setM_asc h1.2⟩
      rcases setM_mem hx with hx | hx
      · exact h1.1 x hx
      · unfold hlt; omega
    · rename_i hc
      split
      · rename_i he
        split
        · exact h1.2
        · refine List.pairwise_cons.2 ⟨fun x hx => ?_, h1.2⟩
          have := h1.1 x hx
          unfold hlt at *; simp only; omega
      · rename_i he
        split
        · exact h
        · refine List.pairwise_cons.2 ⟨fun x hx => ?_, h⟩
          rcases List.mem_cons.1 hx with rfl | hx
          · unfold hlt; simp only; omega
          · have := h1.1 x hx
            unfold hlt at *; simp only; omega
theorem heldM_mem {l : List Hld} (hl : l.Pairwise hlt) {h : Hld} (hm : h ∈ l) : heldM l h.sec h.who = h.amt := by
  induction l with
  | nil => simp at hm
  | cons a l ih =>
    have h1 := List.pairwise_cons.1 hl
    rcases List.mem_cons.1 hm with rfl | hm
    · have h2 : heldM l h.sec h.who = 0 := heldM_low fun x hx => by
        have := h1.1 x hx
        unfold hlt at *; simpa using this
      unfold heldM at h2 ⊢
      simp [sumH, isAt, h2]
    · have h2 := ih h1.2 hm
      have h3 := h1.1 h hm
      have h4 : isAt h.sec h.who a = false := by
        unfold isAt
        rcases h3 with h3 | ⟨h3, h5⟩
        · rw [beq_eq_false_iff_ne.2 (show a.sec ≠ h.sec by omega)]; rfl
        · rw [beq_eq_false_iff_ne.2 (show a.who ≠ h.who by omega)]; simp
      unfold heldM at h2 ⊢
      simp only [sumH, h4]
      simpa using h2
/-- What everybody has tells the holdings. -/
theorem hs_ext : ∀ {l m : List Hld}, HsOk l → HsOk m → (∀ i w, heldM l i w = heldM m i w) → l = m
  | [], [], _, _, _ => rfl
  | [], b :: m, _, hm, h => by
    have h1 := heldM_mem hm.asc (h := b) List.mem_cons_self
    rw [← h] at h1
    have := (hm.ok b List.mem_cons_self).amt
    simp [heldM, sumH] at h1
    omega
  | a :: l, [], hl, _, h => by
    have h1 := heldM_mem hl.asc (h := a) List.mem_cons_self
    rw [h] at h1
    have := (hl.ok a List.mem_cons_self).amt
    simp [heldM, sumH] at h1
    omega
  | a :: l, b :: m, hl, hm, h => by
    have ha := heldM_mem hl.asc (h := a) List.mem_cons_self
    have hb := heldM_mem hm.asc (h := b) List.mem_cons_self
    have pa := (hl.ok a List.mem_cons_self).amt
    have pb := (hm.ok b List.mem_cons_self).amt
    have la := (List.pairwise_cons.1 hl.asc).1
    have lb := (List.pairwise_cons.1 hm.asc).1
    have hab : a = b := by
      by_cases h1 : hlt a b
      · exfalso
        have : heldM (b :: m) a.sec a.who = 0 := heldM_low fun x hx => by
          rcases List.mem_cons.1 hx with rfl | hx
          · unfold hlt at *; simpa using h1
          · have := hlt_trans h1 (lb x hx); unfold hlt at *; simpa using this
        rw [← h, ha] at this; omega
      · by_cases h2 : hlt b a
        · exfalso
          have : heldM (a :: l) b.sec b.who = 0 := heldM_low fun x hx => by
            rcases List.mem_cons.1 hx with rfl | hx
            · unfold hlt at *; simpa using h2
            · have := hlt_trans h2 (la x hx); unfold hlt at *; simpa using this
          rw [h, hb] at this; omega
        · have e1 : a.sec = b.sec := by unfold hlt at *; omega
          have e2 : a.who = b.who := by unfold hlt at *; omega
          have e3 : a.amt = b.amt := by rw [← ha, ← hb, h, e1, e2]
          cases a; cases b; simp_all
    subst hab
    have : l = m := hs_ext hl.tail hm.tail fun i w => by
      have := h i w
      unfold heldM at this ⊢
      simp only [sumH] at this
      omega
    rw [this]
theorem heldM_le_out {l : List Hld} (hl : ∀ h ∈ l, HldOk h) (id who : Int) : heldM l id who ≤ outM l id := by
  induction l with
  | nil => simp [heldM, outM, sumH]
  | cons a l ih =>
    have h1 := ih fun x hx => hl x (List.mem_cons_of_mem _ hx)
    have h2 := (hl a List.mem_cons_self).amt
    unfold heldM outM at *
    simp only [sumH]
    by_cases h3 : isAt id who a = true
    · have h4 : isOf id a = true := by unfold isAt at h3; unfold isOf; simp at h3 ⊢; exact h3.1
      rw [h3, h4]; simp; omega
    · rw [Bool.not_eq_true] at h3
      have h5 : (if isAt id who a = true then a.amt else 0) = 0 := by rw [h3]; rfl
      have h6 : 0 ≤ (if isOf id a = true then a.amt else 0) := by split <;> omega
      omega
theorem setM_ok {l : List Hld} {id who n : Int} (h : HsOk l) (hi : 1 ≤ id ∧ id ≤ 1000) (hw : 1 ≤ who ∧ who ≤ 1000) (h0 : 0 ≤ heldM l id who + n) (h1 : outM l id + n ≤ 1000000000000) : HsOk (setM id who n l) := by
  have hasc := setM_asc (id := id) (who := who) (n := n) h.asc
  refine ⟨hasc, ?_⟩
  have hgen : ∀ l : List Hld, (∀ h ∈ l, HldOk h) → l.Pairwise hlt → 0 ≤ heldM l id who + n → heldM l id who + n ≤ 1000000000000 → ∀ x ∈ setM id who n l, HldOk x := by
    intro l
    induction l with
    | nil =>
      intro _ _ q0 q1 x hx
      simp [heldM, sumH] at q0 q1
      unfold setM at hx
      split at hx
      · simp at hx
      · simp at hx; subst hx; exact ⟨hi, hw, by simp only; omega⟩
    | cons a l ih =>
      intro hk hp q0 q1 x hx
      have hp1 := List.pairwise_cons.1 hp
      unfold setM at hx
      split at hx
      · rename_i hc
        rcases List.mem_cons.1 hx with rfl | hx
        · exact hk _ List.mem_cons_self
        · have e : isAt id who a = false := by
            unfold isAt
            rcases hc with hc | ⟨hc, hc2⟩
            · rw [beq_eq_false_iff_ne.2 (show a.sec ≠ id by omega)]; rfl
            · rw [beq_eq_false_iff_ne.2 (show a.who ≠ who by omega)]; simp
          have e2 : heldM (a :: l) id who = heldM l id who := by unfold heldM; simp [sumH, e]
          rw [e2] at q0 q1
          exact ih (fun y hy => hk y (List.mem_cons_of_mem _ hy)) hp1.2 q0 q1 x hx
      · rename_i hc
        split at hx
        · rename_i he
          have e2 : heldM (a :: l) id who = a.amt := by have := heldM_mem hp (h := a) List.mem_cons_self; rwa [he.1, he.2] at this
          rw [e2] at q0 q1
          split at hx
          · exact hk x (List.mem_cons_of_mem _ hx)
          · rcases List.mem_cons.1 hx with rfl | hx
            · exact ⟨hi, hw, by simp only; omega⟩
            · exact hk x (List.mem_cons_of_mem _ hx)
        · rename_i he
          have e2 : heldM (a :: l) id who = 0 := heldM_low fun y hy => by
            rcases List.mem_cons.1 hy with rfl | hy
            · unfold hlt; simp only; omega
            · have := hp1.1 y hy; unfold hlt at *; simp only; omega
          rw [e2] at q0 q1
          split at hx
          · exact hk x hx
          · rcases List.mem_cons.1 hx with rfl | hx
            · exact ⟨hi, hw, by simp only; omega⟩
            · exact hk x hx
  have h2 := heldM_le_out h.ok id who
  exact hgen l h.ok h.asc h0 (by omega)

/-! ### Moves -/
def findS (id : Int) : List Sec → Option Sec
  | [] => none
  | s :: l => if s.id = id then some s else findS id l
def endsB (m : Mv) : Bool :=
  if m.kind = 1 then decide (m.frm = 0 ∧ 1 ≤ m.to ∧ m.to ≤ 1000)
  else if m.kind = 2 then decide (1 ≤ m.frm ∧ m.frm ≤ 1000 ∧ 1 ≤ m.to ∧ m.to ≤ 1000 ∧ m.frm ≠ m.to)
  else if m.kind = 3 then decide (1 ≤ m.frm ∧ m.frm ≤ 1000 ∧ m.to = 0)
  else false
def faultS (s : Sec) (l : List Hld) (bd : Int) (m : Mv) : Int :=
  if m.day < bd ∨ m.day < s.iss ∨ (if m.kind = 3 then 36000 else s.mat) < m.day then 8
  else if m.amt < 1 ∨ 1000000000000 < m.amt ∨ m.amt.tmod s.unit ≠ 0 then 79
  else if endsB m = false then 6
  else if m.kind ≠ 1 ∧ heldM l m.sec m.frm < m.amt then 77
  else if m.kind = 1 ∧ 1000000000000 < outM l m.sec + m.amt then 2
  else 0
/-- The error of a move on holdings, behind a day. -/
def faultM (secs : List Sec) (l : List Hld) (bd : Int) (m : Mv) : Int :=
  match findS m.sec secs with
  | none => 76
  | some s => faultS s l bd m
def carryM (l : List Hld) (m : Mv) : List Hld :=
  let l1 := if m.kind = 1 then l else setM m.sec m.frm (-m.amt) l
  if m.kind = 3 then l1 else setM m.sec m.to m.amt l1
def replayM (secs : List Sec) : List Hld → Mv → List Mv → Option (List Hld)
  | l, _, [] => some l
  | l, b, m :: ms => if m.num = b.num + 1 ∧ faultM secs l b.day m = 0 then replayM secs (carryM l m) m ms else none
theorem replayM_app (secs : List Sec) : ∀ (ms : List Mv) (l : List Hld) (b : Mv) (ns : List Mv), replayM secs l b (ms ++ ns) = match replayM secs l b ms with | none => none | some k => replayM secs k ((b :: ms).getLast (by simp)) ns
  | [], l, b, ns => rfl
  | m :: ms, l, b, ns => by
    simp only [List.cons_append, replayM]
    split
    · rw [replayM_app secs ms (carryM l m) m ns]
      simp [List.getLast_cons]
    · rfl
/-- A move that is possible has its shape. -/
structure MvOk (secs : List Sec) (l : List Hld) (bd : Int) (m : Mv) (s : Sec) : Prop where
  sec : findS m.sec secs = some s
  day0 : bd ≤ m.day
  day1 : s.iss ≤ m.day
  day2 : m.day ≤ 36000
  mat : m.kind ≠ 3 → m.day ≤ s.mat
  amt : 1 ≤ m.amt ∧ m.amt ≤ 1000000000000
  unit : m.amt.tmod s.unit = 0
  kind : m.kind = 1 ∨ m.kind = 2 ∨ m.kind = 3
  frm : m.kind ≠ 1 → 1 ≤ m.frm ∧ m.frm ≤ 1000
  «to» : m.kind ≠ 3 → 1 ≤ m.to ∧ m.to ≤ 1000
  ne : m.kind = 2 → m.frm ≠ m.to
  frm0 : m.kind = 1 → m.frm = 0
  to0 : m.kind = 3 → m.to = 0
  has : m.kind ≠ 1 → m.amt ≤ heldM l m.sec m.frm
  room : m.kind = 1 → outM l m.sec + m.amt ≤ 1000000000000
theorem fault_zero {secs : List Sec} {l : List Hld} {bd : Int} {m : Mv} (hm : ∀ s ∈ secs, s.mat ≤ 36000) (h : faultM secs l bd m = 0) : ∃ s, MvOk secs l bd m s := by
  unfold faultM at h
  split at h
  · omega
  · rename_i s hs
    have hsm : s.mat ≤ 36000 := by
      have : ∀ {l : List Sec}, findS m.sec l = some s → s ∈ l := by
        intro l
        induction l with
        | nil => intro h; simp [findS] at h
        | cons a l ih =>
          intro h
          simp only [findS] at h
          split at h
          · injection h with h; rw [h]; exact List.mem_cons_self
          · exact List.mem_cons_of_mem _ (ih h)
      exact hm s (this hs)
    unfold faultS at h
    generalize hmx : (if m.kind = 3 then (36000 : Int) else s.mat) = mx at h
    split at h
    · omega
    · rename_i h1
      split at h
      · omega
      · rename_i h2
        split at h
        · omega
        · rename_i h3
          split at h
          · omega
          · rename_i h4
            split at h
            · omega
            · rename_i h5
              rw [Bool.not_eq_false] at h3
              unfold endsB at h3
              refine ⟨s, ?_⟩
              have h2b : ¬ m.amt.tmod s.unit ≠ 0 := fun hc => h2 (Or.inr (Or.inr hc))
              by_cases k1 : m.kind = 1
              · rw [if_pos k1, decide_eq_true_eq] at h3
                rw [if_neg (by omega)] at hmx
                exact ⟨hs, by omega, by omega, by omega, fun _ => by omega, by omega, Decidable.not_not.1 h2b, Or.inl k1, fun q => absurd k1 q, fun _ => h3.2, fun q => by omega, fun _ => h3.1, fun q => by omega, fun q => absurd k1 q, fun _ => by omega⟩
              · rw [if_neg k1] at h3
                by_cases k2 : m.kind = 2
                · rw [if_pos k2, decide_eq_true_eq] at h3
                  rw [if_neg (by omega)] at hmx
                  exact ⟨hs, by omega, by omega, by omega, fun _ => by omega, by omega, Decidable.not_not.1 h2b, Or.inr (Or.inl k2), fun _ => ⟨h3.1, h3.2.1⟩, fun _ => ⟨h3.2.2.1, h3.2.2.2.1⟩, fun _ => h3.2.2.2.2, fun q => by omega, fun q => by omega, fun q => by omega, fun q => by omega⟩
                · rw [if_neg k2] at h3
                  by_cases k3 : m.kind = 3
                  · rw [if_pos k3, decide_eq_true_eq] at h3
                    rw [if_pos k3] at hmx
                    exact ⟨hs, by omega, by omega, by omega, fun q => absurd k3 q, by omega, Decidable.not_not.1 h2b, Or.inr (Or.inr k3), fun _ => ⟨h3.1, h3.2.1⟩, fun q => absurd k3 q, fun q => by omega, fun q => by omega, fun _ => h3.2.2, fun q => by omega, fun q => by omega⟩
                  · rw [if_neg k3] at h3; cases h3

end Go.Proofs.Ytnfllgeneehjjaa

/- Registers, as mathematics: what replaying moves keeps, right registers, adding a move; of no function of the program; no condition. -/
namespace Go.Proofs.Ytnfllgeneehjjaa
open Go.RowKit Go.Lib Go.Proofs

/-- What a move changes for a holder. -/
def effM (m : Mv) (i w : Int) : Int := (if m.kind ≠ 1 ∧ m.sec = i ∧ m.frm = w then -m.amt else 0) + (if m.kind ≠ 3 ∧ m.sec = i ∧ m.to = w then m.amt else 0)
/-- What a move changes of what is outstanding. -/
def issM (m : Mv) (i : Int) : Int := if m.sec = i then (if m.kind = 1 then m.amt else if m.kind = 3 then -m.amt else 0) else 0
theorem heldM_carry (l : List Hld) (m : Mv) (i w : Int) : heldM (carryM l m) i w = heldM l i w + effM m i w := by
  unfold carryM effM
  by_cases h1 : m.kind = 1
  · have h3 : ¬ m.kind = 3 := by omega
    simp only [if_pos h1, if_neg h3]
    rw [heldM_set, if_neg (show ¬ (m.kind ≠ 1 ∧ m.sec = i ∧ m.frm = w) from fun h => h.1 h1)]
    simp only [Int.zero_add]
    congr 1
    by_cases h : m.sec = i ∧ m.to = w
    · rw [if_pos h, if_pos ⟨h3, h⟩]
    · rw [if_neg h, if_neg fun q => h q.2]
  · by_cases h3 : m.kind = 3
    · simp only [if_neg h1, if_pos h3]
      rw [heldM_set, if_neg (show ¬ (m.kind ≠ 3 ∧ m.sec = i ∧ m.to = w) from fun h => h.1 h3)]
      simp only [Int.add_zero]
      congr 1
      by_cases h : m.sec = i ∧ m.frm = w
      · rw [if_pos h, if_pos ⟨h1, h⟩]
      · rw [if_neg h, if_neg fun q => h q.2]
    · simp only [if_neg h1, if_neg h3]
      rw [heldM_set, heldM_set, Int.add_assoc]
      congr 1
      congr 1
      · by_cases h : m.sec = i ∧ m.frm = w
        · rw [if_pos h, if_pos ⟨h1, h⟩]
        · rw [if_neg h, if_neg fun q => h q.2]
      · by_cases h : m.sec = i ∧ m.to = w
        · rw [if_pos h, if_pos ⟨h3, h⟩]
        · rw [if_neg h, if_neg fun q => h q.2]
theorem outM_carry (l : List Hld) (m : Mv) (i : Int) : outM (carryM l m) i = outM l i + issM m i := by
  unfold carryM issM
  by_cases h1 : m.kind = 1
  · have h3 : ¬ m.kind = 3 := by omega
    simp only [if_pos h1, if_neg h3]
    rw [outM_set]
  · by_cases h3 : m.kind = 3
    · simp only [if_neg h1, if_pos h3]
      rw [outM_set]
    · simp only [if_neg h1, if_neg h3]
      rw [outM_set, outM_set]
      split <;> omega
theorem debtM_carry (l : List Hld) (m : Mv) : debtM (carryM l m) = debtM l + issM m m.sec := by
  unfold carryM issM
  simp only [if_true]
  by_cases h1 : m.kind = 1
  · have h3 : ¬ m.kind = 3 := by omega
    simp only [if_pos h1, if_neg h3]
    rw [debtM_set]
  · by_cases h3 : m.kind = 3
    · simp only [if_neg h1, if_pos h3]
      rw [debtM_set]
    · simp only [if_neg h1, if_neg h3]
      rw [debtM_set, debtM_set]
      omega
theorem carryM_len (l : List Hld) (m : Mv) : (carryM l m).length ≤ l.length + 2 := by
  unfold carryM
  have h1 := setM_len m.sec m.frm (-m.amt) l
  have h2 := setM_len m.sec m.to m.amt l
  have h3 := setM_len m.sec m.to m.amt (setM m.sec m.frm (-m.amt) l)
  simp only
  split <;> split <;> omega
structure HsI (l : List Hld) : Prop where
  ok : HsOk l
  out : ∀ i, outM l i ≤ 1000000000000
theorem hsI_nil : HsI [] := ⟨hsOk_nil, fun i => by simp [outM, sumH]⟩
theorem findS_id {id : Int} {s : Sec} : ∀ {l : List Sec}, findS id l = some s → s.id = id ∧ s ∈ l
  | [], h => by simp [findS] at h
  | a :: l, h => by
    simp only [findS] at h
    split at h
    · rename_i ha
      injection h with h
      subst h
      exact ⟨ha, List.mem_cons_self⟩
    · have := findS_id h
      exact ⟨this.1, List.mem_cons_of_mem _ this.2⟩
theorem HsI.carry {secs : List Sec} {l : List Hld} {bd : Int} {m : Mv} {s : Sec} (h : HsI l) (hs : ∀ s ∈ secs, 1 ≤ s.id ∧ s.id ≤ 1000) (hm : MvOk secs l bd m s) : HsI (carryM l m) := by
  have hid : 1 ≤ m.sec ∧ m.sec ≤ 1000 := by
    have := findS_id hm.sec
    have := hs s this.2
    omega
  refine ⟨?_, fun i => ?_⟩
  · have ho := h.out m.sec
    have ha := hm.amt
    unfold carryM
    by_cases h1 : m.kind = 1
    · have h3 : ¬ m.kind = 3 := by omega
      simp only [if_pos h1, if_neg h3]
      have hb := (sumH_bound (p := isAt m.sec m.to) h.ok.ok).1
      exact setM_ok h.ok hid (hm.to h3) (by unfold heldM; omega) (hm.room h1)
    · have hh := hm.has h1
      have k1 : HsOk (setM m.sec m.frm (-m.amt) l) := setM_ok h.ok hid (hm.frm h1) (by omega) (by omega)
      by_cases h3 : m.kind = 3
      · simp only [if_neg h1, if_pos h3]
        exact k1
      · simp only [if_neg h1, if_neg h3]
        have hb := (sumH_bound (p := isAt m.sec m.to) k1.ok).1
        exact setM_ok k1 hid (hm.to h3) (by unfold heldM; omega) (by rw [outM_set]; simp; omega)
  · rw [outM_carry]
    have ho := h.out i
    have ha := hm.amt
    unfold issM
    by_cases h1 : m.kind = 1
    · rw [if_pos h1]
      split
      · rename_i hi
        have := hm.room h1
        rw [← hi]; omega
      · omega
    · rw [if_neg h1]
      split
      · split <;> omega
      · omega

/-- The last of a row of moves behind a move. -/
def lastM (b : Mv) : List Mv → Mv
  | [] => b
  | m :: ms => lastM m ms
theorem lastM_snoc (b m : Mv) : ∀ ms : List Mv, lastM b (ms ++ [m]) = m
  | [] => rfl
  | x :: ms => lastM_snoc x m ms
theorem replayM_snoc (secs : List Sec) (m : Mv) : ∀ (ms : List Mv) (l : List Hld) (b : Mv), replayM secs l b (ms ++ [m]) = match replayM secs l b ms with
    | none => none
    | some k => if m.num = (lastM b ms).num + 1 ∧ faultM secs k (lastM b ms).day m = 0 then some (carryM k m) else none
  | [], l, b => rfl
  | x :: ms, l, b => by
    simp only [List.cons_append, replayM, lastM]
    split
    · rw [replayM_snoc secs m ms (carryM l x) x]
      rfl
    · rfl
/-- What a run of moves keeps. -/
structure RunM (secs : List Sec) (l : List Hld) (b : Mv) (ms : List Mv) (k : List Hld) : Prop where
  inv : HsI k
  len : k.length ≤ l.length + 2 * ms.length
  num : (lastM b ms).num = b.num + ms.length
  day : b.day ≤ (lastM b ms).day
theorem replay_run {secs : List Sec} (hs : ∀ s ∈ secs, 1 ≤ s.id ∧ s.id ≤ 1000 ∧ s.mat ≤ 36000) : ∀ {ms : List Mv} {l : List Hld} {b : Mv} {k : List Hld}, HsI l → replayM secs l b ms = some k → RunM secs l b ms k
  | [], l, b, k, hl, h => by
    simp only [replayM] at h
    injection h with h
    subst h
    exact ⟨hl, by simp, by simp [lastM], Int.le_refl _⟩
  | m :: ms, l, b, k, hl, h => by
    simp only [replayM] at h
    split at h
    · rename_i hc
      obtain ⟨s, hm⟩ := fault_zero (fun s hs' => (hs s hs').2.2) hc.2
      have hl2 := hl.carry (fun s hs' => ⟨(hs s hs').1, (hs s hs').2.1⟩) hm
      have r := replay_run hs hl2 h
      have hlen := carryM_len l m
      have h1 := r.len
      have h2 := r.num
      have h3 := r.day
      have h4 := hm.day0
      exact ⟨r.inv, by simp only [List.length_cons]; omega, by simp only [lastM, List.length_cons]; omega, by simp only [lastM]; omega⟩
    · cases h
/-- A security that is right. -/
def SecR (s : Sec) : Prop := ∃ z r, SecOk s z r
theorem SecR.id {s : Sec} (h : SecR s) : 1 ≤ s.id ∧ s.id ≤ 1000 := by obtain ⟨z, r, k⟩ := h; exact ⟨k.id0, k.id1⟩
theorem SecR.mat {s : Sec} (h : SecR s) : s.mat ≤ 35990 := by obtain ⟨z, r, k⟩ := h; exact k.mat1
theorem SecR.unit {s : Sec} (h : SecR s) : 1 ≤ s.unit ∧ s.unit ≤ 1000000000 := by obtain ⟨z, r, k⟩ := h; exact ⟨k.unit0, k.unit1⟩
theorem SecR.iss {s : Sec} (h : SecR s) : 0 ≤ s.iss ∧ s.iss ≤ 36000 := by obtain ⟨z, r, k⟩ := h; exact ⟨k.iss0, k.iss1⟩
structure SecsOk (secs : List Sec) : Prop where
  ok : ∀ s ∈ secs, SecR s
  asc : secs.Pairwise fun a b => a.id < b.id
  len : secs.length ≤ 20
theorem SecsOk.bound {secs : List Sec} (h : SecsOk secs) : ∀ s ∈ secs, 1 ≤ s.id ∧ s.id ≤ 1000 ∧ s.mat ≤ 36000 := fun s hs => by
  have h1 := (h.ok s hs).id
  have h2 := (h.ok s hs).mat
  omega
structure Reg where
  secs : List Sec
  hs : List Hld
  ms : List Mv
structure RegOk (r : Reg) : Prop where
  secs : SecsOk r.secs
  len : r.ms.length ≤ 400
  run : replayM r.secs [] Mv.zero r.ms = some r.hs
theorem RegOk.runM {r : Reg} (h : RegOk r) : RunM r.secs [] Mv.zero r.ms r.hs := replay_run h.secs.bound hsI_nil h.run
theorem RegOk.hsLen {r : Reg} (h : RegOk r) : r.hs.length ≤ 800 := by
  have h1 := h.runM.len
  have h2 := h.len
  simp at h1
  omega
/-- A register with a move more. -/
def addM (r : Reg) (m : Mv) : Reg := ⟨r.secs, carryM r.hs m, r.ms ++ [m]⟩
theorem RegOk.add {r : Reg} (h : RegOk r) {m : Mv} (hl : r.ms.length < 400) (hn : m.num = (r.ms.length : Int) + 1) (hf : faultM r.secs r.hs (lastM Mv.zero r.ms).day m = 0) : RegOk (addM r m) := by
  refine ⟨h.secs, by unfold addM; simp; omega, ?_⟩
  unfold addM
  simp only
  rw [replayM_snoc, h.run]
  have h1 := h.runM.num
  simp only
  rw [if_pos ⟨by rw [hn, h1]; simp [Mv.zero], hf⟩]
/-- Sums over moves. -/
def effL (i w : Int) : List Mv → Int
  | [] => 0
  | m :: ms => effM m i w + effL i w ms
def issL (i : Int) : List Mv → Int
  | [] => 0
  | m :: ms => issM m i + issL i ms
theorem replay_held {secs : List Sec} (i w : Int) : ∀ {ms : List Mv} {l : List Hld} {b : Mv} {k : List Hld}, replayM secs l b ms = some k → heldM k i w = heldM l i w + effL i w ms
  | [], l, b, k, h => by simp only [replayM] at h; injection h with h; subst h; simp [effL]
  | m :: ms, l, b, k, h => by
    simp only [replayM] at h
    split at h
    · rw [replay_held i w h, heldM_carry, effL]; omega
    · cases h
theorem replay_out {secs : List Sec} (i : Int) : ∀ {ms : List Mv} {l : List Hld} {b : Mv} {k : List Hld}, replayM secs l b ms = some k → outM k i = outM l i + issL i ms
  | [], l, b, k, h => by simp only [replayM] at h; injection h with h; subst h; simp [issL]
  | m :: ms, l, b, k, h => by
    simp only [replayM] at h
    split at h
    · rw [replay_out i h, outM_carry, issL]; omega
    · cases h

end Go.Proofs.Ytnfllgeneehjjaa
