/- Ledgers in which both sides book every mutual posting, as mathematics: nothing differs, and all is eliminated; of no function of the program; no condition. -/
import Derived.Test.YtdbpbmejgdbppaaCsM
set_option linter.unusedSimpArgs false
set_option linter.unusedVariables false
namespace Go.Proofs.Ytdbpbmejgdbppaa
open Go.RowKit Go.Lib Go.Proofs Go.Maps

/-! ### Sums over positions -/
def qsum (f : Qst → Int) : List Qst → Int
  | [] => 0
  | q :: l => f q + qsum f l
theorem qsum_app (f : Qst → Int) : ∀ s t : List Qst, qsum f (s ++ t) = qsum f s + qsum f t
  | [], t => by simp [qsum]
  | q :: s, t => by simp only [List.cons_append, qsum, qsum_app f s t]; omega
theorem qsum_congr {f k : Qst → Int} : ∀ {l : List Qst}, (∀ q ∈ l, f q = k q) → qsum f l = qsum k l
  | [], _ => rfl
  | q :: l, h => by rw [qsum, qsum, h q List.mem_cons_self, qsum_congr fun x hx => h x (List.mem_cons_of_mem _ hx)]
theorem qsum_add (f k : Qst → Int) : ∀ l : List Qst, qsum (fun q => f q + k q) l = qsum f l + qsum k l
  | [] => rfl
  | q :: l => by simp only [qsum, qsum_add f k l]; omega
theorem qsum_mul (c : Int) (f : Qst → Int) : ∀ l : List Qst, qsum (fun q => c * f q) l = c * qsum f l
  | [] => by simp [qsum]
  | q :: l => by simp only [qsum, qsum_mul c f l, Int.mul_add]
theorem qsum_zero {f : Qst → Int} : ∀ {l : List Qst}, (∀ q ∈ l, f q = 0) → qsum f l = 0
  | [], _ => rfl
  | q :: l, h => by rw [qsum, h q List.mem_cons_self, qsum_zero fun x hx => h x (List.mem_cons_of_mem _ hx)]; rfl
theorem elimQ_sum (d : Int) (l : List Pst) : ∀ qs : List Qst, elimQ d l qs = qsum (minQ d l) qs
  | [] => rfl
  | q :: qs => by rw [elimQ, qsum, elimQ_sum d l qs]
theorem elAc_sum (d : Int) (l : List Pst) (t : Int) : ∀ qs : List Qst, elAc d l t qs = qsum (fun q => (if t = q.m.acct then -(q.m.sgn * minQ d l q) else 0) + (if t = q.m.oth then q.m.sgn * minQ d l q else 0)) qs
  | [] => rfl
  | q :: qs => by rw [elAc, qsum, elAc_sum d l t qs]
def sumI (f : Int → Int) : List Int → Int
  | [] => 0
  | x :: l => f x + sumI f l
theorem sumI_congr {f k : Int → Int} : ∀ {l : List Int}, (∀ x ∈ l, f x = k x) → sumI f l = sumI k l
  | [], _ => rfl
  | x :: l, h => by rw [sumI, sumI, h x List.mem_cons_self, sumI_congr fun y hy => h y (List.mem_cons_of_mem _ hy)]
theorem sumI_zero : ∀ l : List Int, sumI (fun _ => 0) l = 0
  | [] => rfl
  | x :: l => by rw [sumI, sumI_zero l]; rfl
theorem sumI_one {x c : Int} : ∀ {l : List Int}, l.Pairwise (· < ·) → sumI (fun y => if y = x then c else 0) l = if x ∈ l then c else 0
  | [], _ => by simp [sumI]
  | y :: l, h => by
    rw [List.pairwise_cons] at h
    have ih := sumI_one (x := x) (c := c) h.2
    rw [sumI, ih]
    by_cases e : y = x
    · subst e
      have hn : y ∉ l := fun hm => by have := h.1 y hm; omega
      rw [if_pos rfl, if_neg hn, if_pos List.mem_cons_self]
      omega
    · rw [if_neg e]
      by_cases hm : x ∈ l
      · rw [if_pos hm, if_pos (List.mem_cons_of_mem _ hm)]; omega
      · rw [if_neg hm, if_neg]
        · rfl
        · intro hx
          rcases List.mem_cons.1 hx with rfl | hx
          · exact e rfl
          · exact hm hx
theorem qsum_flat (f : Qst → Int) (k : Int → List Qst) : ∀ l : List Int, qsum f (l.flatMap k) = sumI (fun x => qsum f (k x)) l
  | [] => rfl
  | x :: l => by rw [List.flatMap_cons, qsum_app, sumI, qsum_flat f k l]
theorem qsum_map (f : Qst → Int) (k : Int → Qst) : ∀ l : List Int, qsum f (l.map k) = sumI (fun x => f (k x)) l
  | [] => rfl
  | x :: l => by rw [List.map_cons, qsum, sumI, qsum_map f k l]

/-- A posting counts for just one position. -/
theorem hit_once {d c : Int} {g R : List Int} (hg : g.Pairwise (· < ·)) (hR : R.Pairwise (· < ·)) (m : Mut) (x : Pst) : qsum (fun q => if hitQ d q.a q.b q.r x then c else 0) (kindQ m g R) = if x.day ≤ d ∧ x.ent ∈ g ∧ x.par ∈ g ∧ x.ent ≠ x.par ∧ x.ref ∈ R then c else 0 := by
  have h1 : ∀ a b, qsum (fun q => if hitQ d q.a q.b q.r x then c else 0) (rowQ m a b R) = if b = x.par then (if a = x.ent then (if x.day ≤ d ∧ x.ent ≠ x.par ∧ x.ref ∈ R then c else 0) else 0) else 0 := fun a b => by
    unfold rowQ
    by_cases hab : a = b
    · rw [if_pos hab]
      subst hab
      show (0 : Int) = _
      split
      · rename_i e1
        split
        · rename_i e2
          rw [if_neg fun hh => hh.2.1 (e2.symm.trans e1)]
        · rfl
      · rfl
    · rw [if_neg hab, qsum_map]
      by_cases hh : x.day ≤ d ∧ x.ent = a ∧ x.par = b
      · obtain ⟨e1, e2, e3⟩ := hh
        have : sumI (fun r => if hitQ d a b r x then c else 0) R = sumI (fun r => if r = x.ref then c else 0) R := sumI_congr fun r _ => by
          unfold hitQ
          by_cases e : x.ref = r
          · simp [e1, e2, e3, e]
          · have e' : ¬ r = x.ref := fun q => e q.symm
            simp [e1, e2, e3, e, e']
        show sumI (fun r => if hitQ d a b r x then c else 0) R = _
        rw [this, sumI_one hR, if_pos e3.symm, if_pos e2.symm]
        have hne : x.ent ≠ x.par := by rw [e2, e3]; exact hab
        simp [e1, hne]
      · have : sumI (fun r => if hitQ d a b r x then c else 0) R = sumI (fun _ => 0) R := sumI_congr fun r _ => by
          have : hitQ d a b r x = false := by
            unfold hitQ
            rcases Classical.em (x.day ≤ d) with e1 | e1
            · rcases Classical.em (x.ent = a) with e2 | e2
              · have e3 : ¬ x.par = b := fun e3 => hh ⟨e1, e2, e3⟩
                simp [e3]
              · simp [e2]
            · simp [e1]
          rw [this]; rfl
        show sumI (fun r => if hitQ d a b r x then c else 0) R = _
        rw [this, sumI_zero]
        split
        · rename_i e3
          split
          · rename_i e2
            rw [if_neg fun q => hh ⟨q.1, e2.symm, e3.symm⟩]
          · rfl
        · rfl
  have h2 : ∀ a, qsum (fun q => if hitQ d q.a q.b q.r x then c else 0) (pairQ m a g R) = if a = x.ent then (if x.par ∈ g ∧ x.day ≤ d ∧ x.ent ≠ x.par ∧ x.ref ∈ R then c else 0) else 0 := fun a => by
    unfold pairQ
    rw [qsum_flat, sumI_congr fun b _ => h1 a b, sumI_one hg]
    by_cases e : a = x.ent
    · rw [if_pos e, if_pos e]
      by_cases hm : x.par ∈ g
      · simp [hm]
      · simp [hm]
    · rw [if_neg e, if_neg e]; split <;> rfl
  unfold kindQ
  rw [qsum_flat, sumI_congr fun a _ => h2 a, sumI_one hg]
  by_cases hm : x.ent ∈ g
  · rw [if_pos hm]
    simp only [hm, true_and]
    congr 1
    simp only [eq_iff_iff]
    constructor
    · rintro ⟨a, b, c, e⟩; exact ⟨b, a, c, e⟩
    · rintro ⟨a, b, c, e⟩; exact ⟨b, a, c, e⟩
  · rw [if_neg hm]
    simp [hm]
/-- All positions of a kind come to what postings within the group make of an account. -/
def withinM (d acct : Int) (g R : List Int) : List Pst → Int
  | [] => 0
  | x :: l => (if x.day ≤ d ∧ x.ent ∈ g ∧ x.par ∈ g ∧ x.ent ≠ x.par ∧ x.ref ∈ R then netP acct x else 0) + withinM d acct g R l
theorem kind_sum {d acct : Int} {g R : List Int} (hg : g.Pairwise (· < ·)) (hR : R.Pairwise (· < ·)) (m : Mut) : ∀ l : List Pst, qsum (fun q => posQ d acct q.a q.b q.r l) (kindQ m g R) = withinM d acct g R l
  | [] => qsum_zero fun _ _ => rfl
  | x :: l => by
    have h1 := kind_sum (d := d) (acct := acct) hg hR m l
    have h2 := hit_once (d := d) (c := netP acct x) hg hR m x
    simp only [posQ]
    rw [qsum_add, h1, h2]
    rfl
theorem withinM_app (d acct : Int) (g R : List Int) : ∀ l m : List Pst, withinM d acct g R (l ++ m) = withinM d acct g R l + withinM d acct g R m
  | [], m => by simp [withinM]
  | x :: l, m => by simp only [List.cons_append, withinM, withinM_app d acct g R l m]; omega
/-- The same with both entities the other way round. -/
theorem hit_once' {d c : Int} {g R : List Int} (hg : g.Pairwise (· < ·)) (hR : R.Pairwise (· < ·)) (m : Mut) (x : Pst) : qsum (fun q => if hitQ d q.b q.a q.r x then c else 0) (kindQ m g R) = if x.day ≤ d ∧ x.ent ∈ g ∧ x.par ∈ g ∧ x.ent ≠ x.par ∧ x.ref ∈ R then c else 0 := by
  have e1 : ∀ q : Qst, hitQ d q.b q.a q.r x = hitQ d q.a q.b q.r { x with ent := x.par, par := x.ent } := fun q => by
    unfold hitQ
    simp only
    cases decide (x.day ≤ d) <;> cases decide (x.ent = q.b) <;> cases decide (x.par = q.a) <;> simp
  have h := hit_once (d := d) (c := c) hg hR m { x with ent := x.par, par := x.ent }
  rw [qsum_congr fun q _ => show (if hitQ d q.b q.a q.r x = true then c else 0) = _ by rw [e1 q], h]
  simp only
  congr 1
  simp only [eq_iff_iff]
  constructor
  · rintro ⟨a, b, c, e, f⟩; exact ⟨a, c, b, fun q => e q.symm, f⟩
  · rintro ⟨a, b, c, e, f⟩; exact ⟨a, c, b, fun q => e q.symm, f⟩

/-! ### Ledgers in which both sides agree -/
def plainA (t : Int) : Prop := t ≠ 140 ∧ t ≠ 240 ∧ t ≠ 440 ∧ t ≠ 540
inductive AgrL : List Pst → Prop
  | nil : AgrL []
  | pair {l : List Pst} (h : AgrL l) (n day a b amt ref : Int) (ha : 1 ≤ a ∧ a ≤ 3) (hb : 1 ≤ b ∧ b ≤ 3) (hab : a ≠ b) (h0 : 0 ≤ amt) : AgrL (l ++ [⟨n, day, a, 140, 440, amt, b, ref⟩] ++ [⟨n + 1, day, b, 540, 240, amt, a, ref⟩])
  | plain {l : List Pst} (h : AgrL l) (p : Pst) (hp : p.par = 0) (hd : plainA p.deb) (hc : plainA p.crd) : AgrL (l ++ [p])
theorem posQ_pair (d t e p r : Int) (l : List Pst) (n day a b amt ref : Int) : posQ d t e p r (l ++ [⟨n, day, a, 140, 440, amt, b, ref⟩] ++ [⟨n + 1, day, b, 540, 240, amt, a, ref⟩]) = posQ d t e p r l + (if day ≤ d ∧ a = e ∧ b = p ∧ ref = r then (if t = 140 then amt else 0) - (if t = 440 then amt else 0) else 0) + (if day ≤ d ∧ b = e ∧ a = p ∧ ref = r then (if t = 540 then amt else 0) - (if t = 240 then amt else 0) else 0) := by
  rw [posQ_snoc, posQ_snoc]
  unfold hitQ netP
  simp only [Bool.and_eq_true, decide_eq_true_eq, and_assoc]
theorem posQ_plain {d t e q r : Int} {l : List Pst} {p : Pst} (ht : ¬ plainA t) (hd : plainA p.deb) (hc : plainA p.crd) : posQ d t e q r (l ++ [p]) = posQ d t e q r l := by
  rw [posQ_snoc]
  have h1 : netP t p = 0 := by
    unfold netP
    rw [if_neg fun e => ht (by rw [e]; exact hd), if_neg fun e => ht (by rw [e]; exact hc)]
    rfl
  rw [h1]
  split <;> omega
theorem not140 : ¬ plainA 140 := fun h => h.1 rfl
theorem not240 : ¬ plainA 240 := fun h => h.2.1 rfl
theorem not440 : ¬ plainA 440 := fun h => h.2.2.1 rfl
theorem not540 : ¬ plainA 540 := fun h => h.2.2.2 rfl
theorem AgrL.pos {l : List Pst} (h : AgrL l) : ∀ d e p r, posQ d 140 e p r l = -posQ d 240 p e r l ∧ -posQ d 440 e p r l = posQ d 540 p e r l ∧ 0 ≤ posQ d 140 e p r l ∧ 0 ≤ -posQ d 440 e p r l := by
  induction h with
  | nil => intro d e p r; simp [posQ]
  | pair h n day a b amt ref ha hb hab h0 ih =>
    intro d e p r
    obtain ⟨i1, i2, i3, i4⟩ := ih d e p r
    rw [posQ_pair, posQ_pair, posQ_pair, posQ_pair]
    simp only [show ¬ (140 : Int) = 440 by decide, show ¬ (140 : Int) = 540 by decide, show ¬ (140 : Int) = 240 by decide, show ¬ (240 : Int) = 140 by decide, show ¬ (240 : Int) = 440 by decide, show ¬ (240 : Int) = 540 by decide, show ¬ (440 : Int) = 140 by decide, show ¬ (440 : Int) = 540 by decide, show ¬ (440 : Int) = 240 by decide, show ¬ (540 : Int) = 140 by decide, show ¬ (540 : Int) = 440 by decide, show ¬ (540 : Int) = 240 by decide, if_true, if_false, ite_self, Int.sub_zero, Int.zero_sub, Int.add_zero]
    by_cases hc : day ≤ d ∧ a = e ∧ b = p ∧ ref = r
    · have hc2 : day ≤ d ∧ b = p ∧ a = e ∧ ref = r := ⟨hc.1, hc.2.2.1, hc.2.1, hc.2.2.2⟩
      simp only [hc, hc2, and_self, if_true]
      omega
    · have hc2 : ¬ (day ≤ d ∧ b = p ∧ a = e ∧ ref = r) := fun q => hc ⟨q.1, q.2.2.1, q.2.1, q.2.2.2⟩
      rw [if_neg hc, if_neg hc, if_neg hc2, if_neg hc2]
      omega
  | plain h p hp hd hc ih =>
    intro d e q r
    rw [posQ_plain not140 hd hc, posQ_plain not240 hd hc, posQ_plain not440 hd hc, posQ_plain not540 hd hc]
    exact ih d e q r
theorem AgrL.own {l : List Pst} (h : AgrL l) (d : Int) {q : Qst} (hq : q.m = mut1 ∨ q.m = mut2) : ownQ d l q = othQ d l q ∧ 0 ≤ ownQ d l q := by
  obtain ⟨h1, h2, h3, h4⟩ := h.pos d q.a q.b q.r
  unfold ownQ othQ
  rcases hq with e | e <;> rw [e] <;> simp only [mut1, mut2] <;> omega
theorem AgrL.min {l : List Pst} (h : AgrL l) (d : Int) {q : Qst} (hq : q.m = mut1 ∨ q.m = mut2) : minQ d l q = ownQ d l q := by
  obtain ⟨h1, h2⟩ := h.own d hq
  unfold minQ
  rw [← h1]
  split
  · omega
  · omega
theorem AgrL.dif {l : List Pst} (h : AgrL l) (d : Int) {qs : List Qst} (hq : ∀ q ∈ qs, q.m = mut1 ∨ q.m = mut2) : difL d l qs = [] := difL_nil fun q hx => (h.own d (hq q hx)).1
/-- All that was posted between entities. -/
def parM : List Pst → Int
  | [] => 0
  | x :: l => (if x.par = 0 then 0 else x.amt) + parM l
theorem parM_app : ∀ l m : List Pst, parM (l ++ m) = parM l + parM m
  | [], m => by simp [parM]
  | x :: l, m => by simp only [List.cons_append, parM, parM_app l m]; omega
theorem mem123 {x : Int} : x ∈ ([1, 2, 3] : List Int) ↔ 1 ≤ x ∧ x ≤ 3 := by
  simp only [List.mem_cons, List.mem_nil_iff, or_false]; omega
theorem asc123 : ([1, 2, 3] : List Int).Pairwise (· < ·) := by decide
/-- What a group of three has eliminated, where both sides agree: all of it. -/
theorem AgrL.within {l : List Pst} (h : AgrL l) (d : Int) (hd : ∀ x ∈ l, x.day ≤ d) (R : List Int) (hR : ∀ x ∈ l, x.ref ∈ R) : withinM d 140 [1, 2, 3] R l - withinM d 440 [1, 2, 3] R l = parM l := by
  induction h with
  | nil => rfl
  | @pair l h n day a b amt ref ha hb hab h0 ih =>
    have i := ih (fun x hx => hd x (by simp [hx])) (fun x hx => hR x (by simp [hx]))
    have hday : day ≤ d := hd ⟨n, day, a, 140, 440, amt, b, ref⟩ (by simp)
    have href : ref ∈ R := hR ⟨n, day, a, 140, 440, amt, b, ref⟩ (by simp)
    have ha3 := mem123.2 ha
    have hb3 := mem123.2 hb
    rw [withinM_app, withinM_app, withinM_app, withinM_app, parM_app, parM_app]
    have hba : ¬ b = a := fun e => hab e.symm
    have ha0 : ¬ a = 0 := by omega
    have hb0 : ¬ b = 0 := by omega
    simp only [withinM, parM, netP, hday, href, ha3, hb3, hab, hba, ha0, hb0, ne_eq, not_false_eq_true, and_self, if_true, if_false, show ¬ (140 : Int) = 440 by decide, show ¬ (140 : Int) = 540 by decide, show ¬ (140 : Int) = 240 by decide, show ¬ (440 : Int) = 140 by decide, show ¬ (440 : Int) = 540 by decide, show ¬ (440 : Int) = 240 by decide]
    omega
  | @plain l h p hp hpd hpc ih =>
    have i := ih (fun x hx => hd x (by simp [hx])) (fun x hx => hR x (by simp [hx]))
    have hn : p.par ∉ ([1, 2, 3] : List Int) := by rw [mem123, hp]; omega
    rw [withinM_app, withinM_app, parM_app]
    simp only [withinM, parM]
    rw [if_neg fun q => hn q.2.2.1, if_neg fun q => hn q.2.2.1, if_pos hp]
    omega

/-! ### What remains on the mutual accounts -/
theorem grp_snoc (d t : Int) (l : List Pst) (x : Pst) : grpM d (l ++ [x]) t [1, 2, 3] = grpM d l t [1, 2, 3] + (if x.day ≤ d ∧ x.ent ∈ ([1, 2, 3] : List Int) then netP t x else 0) := by
  obtain ⟨z, hz⟩ : ∃ z, z = (if x.day ≤ d ∧ x.ent ∈ ([1, 2, 3] : List Int) then netP t x else 0) := ⟨_, rfl⟩
  rw [← hz]
  simp only [grpM, ofM_snoc]
  by_cases hd : x.day ≤ d
  · by_cases hm : x.ent ∈ ([1, 2, 3] : List Int)
    · rw [if_pos ⟨hd, hm⟩] at hz
      subst hz
      rw [mem123] at hm
      have : x.ent = 1 ∨ x.ent = 2 ∨ x.ent = 3 := by omega
      rcases this with e | e | e <;> simp [hitE, e, hd] <;> omega
    · rw [if_neg fun q => hm q.2] at hz
      subst hz
      rw [mem123] at hm
      have e1 : ¬ x.ent = 1 := by omega
      have e2 : ¬ x.ent = 2 := by omega
      have e3 : ¬ x.ent = 3 := by omega
      simp [hitE, e1, e2, e3]
  · rw [if_neg fun q => hd q.1] at hz
    subst hz
    simp [hd]
theorem grp_nil (d t : Int) : grpM d [] t [1, 2, 3] = 0 := rfl
theorem AgrL.grp {l : List Pst} (h : AgrL l) (d : Int) (R : List Int) (hR : ∀ x ∈ l, x.ref ∈ R) : grpM d l 140 [1, 2, 3] = withinM d 140 [1, 2, 3] R l ∧ grpM d l 240 [1, 2, 3] = -withinM d 140 [1, 2, 3] R l ∧ grpM d l 440 [1, 2, 3] = withinM d 440 [1, 2, 3] R l ∧ grpM d l 540 [1, 2, 3] = -withinM d 440 [1, 2, 3] R l := by
  induction h with
  | nil => refine ⟨rfl, rfl, rfl, rfl⟩
  | @pair l h n day a b amt ref ha hb hab h0 ih =>
    obtain ⟨i1, i2, i3, i4⟩ := ih (fun x hx => hR x (by simp [hx]))
    have href : ref ∈ R := hR ⟨n, day, a, 140, 440, amt, b, ref⟩ (by simp)
    have ha3 := mem123.2 ha
    have hb3 := mem123.2 hb
    have hba : ¬ b = a := fun e => hab e.symm
    simp only [grp_snoc, withinM_app, withinM]
    rw [i1, i2, i3, i4]
    simp only [withinM, netP, href, ha3, hb3, hab, hba, ne_eq, not_false_eq_true, and_self, and_true, if_true, if_false, show ¬ (140 : Int) = 440 by decide, show ¬ (140 : Int) = 540 by decide, show ¬ (140 : Int) = 240 by decide, show ¬ (240 : Int) = 140 by decide, show ¬ (240 : Int) = 440 by decide, show ¬ (240 : Int) = 540 by decide, show ¬ (440 : Int) = 140 by decide, show ¬ (440 : Int) = 540 by decide, show ¬ (440 : Int) = 240 by decide, show ¬ (540 : Int) = 140 by decide, show ¬ (540 : Int) = 440 by decide, show ¬ (540 : Int) = 240 by decide]
    by_cases hday : day ≤ d
    · simp only [hday, if_true]
      omega
    · simp only [hday, if_false]
      omega
  | @plain l h p hp hpd hpc ih =>
    obtain ⟨i1, i2, i3, i4⟩ := ih (fun x hx => hR x (by simp [hx]))
    have hn : p.par ∉ ([1, 2, 3] : List Int) := by rw [mem123, hp]; omega
    have hz : ∀ t, ¬ plainA t → netP t p = 0 := fun t ht => by
      unfold netP
      rw [if_neg fun e => ht (by rw [e]; exact hpd), if_neg fun e => ht (by rw [e]; exact hpc)]
      rfl
    simp only [grp_snoc, withinM_app, withinM]
    rw [hz 140 not140, hz 240 not240, hz 440 not440, hz 540 not540, i1, i2, i3, i4]
    simp only [ite_self, Int.add_zero, and_self]
theorem el_kinds (d : Int) (l : List Pst) (g R : List Int) : elAc d l 140 (eachQ g R) = -qsum (minQ d l) (kindQ mut1 g R) ∧ elAc d l 240 (eachQ g R) = qsum (minQ d l) (kindQ mut1 g R) ∧ elAc d l 440 (eachQ g R) = qsum (minQ d l) (kindQ mut2 g R) ∧ elAc d l 540 (eachQ g R) = -qsum (minQ d l) (kindQ mut2 g R) := by
  have k1 : ∀ q ∈ kindQ mut1 g R, q.m = mut1 := fun q hq => (mem_kindQ hq).1
  have k2 : ∀ q ∈ kindQ mut2 g R, q.m = mut2 := fun q hq => (mem_kindQ hq).1
  have e1 : ∀ (f : Qst → Int) qs, -qsum f qs = qsum (fun q => -1 * f q) qs := fun f qs => by rw [qsum_mul]; omega
  unfold eachQ
  simp only [elAc_sum, qsum_app]
  refine ⟨?_, ?_, ?_, ?_⟩
  · rw [qsum_zero (l := kindQ mut2 g R) (fun q hq => by rw [k2 q hq]; simp [mut2]), e1, Int.add_zero]
    exact qsum_congr fun q hq => by rw [k1 q hq]; simp [mut1]
  · rw [qsum_zero (l := kindQ mut2 g R) (fun q hq => by rw [k2 q hq]; simp [mut2]), Int.add_zero]
    exact qsum_congr fun q hq => by rw [k1 q hq]; simp [mut1]
  · rw [qsum_zero (l := kindQ mut1 g R) (fun q hq => by rw [k1 q hq]; simp [mut1]), Int.zero_add]
    exact qsum_congr fun q hq => by rw [k2 q hq]; simp [mut2]
  · rw [qsum_zero (l := kindQ mut1 g R) (fun q hq => by rw [k1 q hq]; simp [mut1]), e1, Int.zero_add]
    exact qsum_congr fun q hq => by rw [k2 q hq]; simp [mut2]
theorem el_other {d t : Int} {l : List Pst} {g R : List Int} (ht : plainA t) : elAc d l t (eachQ g R) = 0 := by
  obtain ⟨t1, t2, t3, t4⟩ := ht
  rw [elAc_sum]
  refine qsum_zero fun q hq => ?_
  rcases (mem_eachQ hq).1 with e | e <;> rw [e] <;> simp [mut1, mut2, t1, t2, t3, t4]
/-- The sums of a group behind the eliminations. -/
def wholeM (d : Int) (l : List Pst) (g : List Int) (t : Int) : Int := grpM d l t g + elAc d l t (eachQ g (refsM l))
theorem AgrL.kinds {l : List Pst} (h : AgrL l) (d : Int) : qsum (minQ d l) (kindQ mut1 [1, 2, 3] (refsM l)) = withinM d 140 [1, 2, 3] (refsM l) l ∧ qsum (minQ d l) (kindQ mut2 [1, 2, 3] (refsM l)) = -withinM d 440 [1, 2, 3] (refsM l) l := by
  have e1 : ∀ (f : Qst → Int) qs, -qsum f qs = qsum (fun q => -1 * f q) qs := fun f qs => by rw [qsum_mul]; omega
  constructor
  · rw [← kind_sum asc123 (refsM_asc l) mut1 l]
    exact qsum_congr fun q hq => by have e := (mem_kindQ hq).1; rw [h.min d (Or.inl e)]; unfold ownQ; rw [e]; simp [mut1]
  · rw [← kind_sum asc123 (refsM_asc l) mut2 l, e1]
    exact qsum_congr fun q hq => by have e := (mem_kindQ hq).1; rw [h.min d (Or.inr e)]; unfold ownQ; rw [e]; simp [mut2]
/-- Nothing remains on the mutual accounts. -/
theorem AgrL.whole {l : List Pst} (h : AgrL l) (d : Int) {t : Int} (ht : ¬ plainA t) : wholeM d l [1, 2, 3] t = 0 := by
  obtain ⟨k1, k2⟩ := h.kinds d
  obtain ⟨e1, e2, e3, e4⟩ := el_kinds d l [1, 2, 3] (refsM l)
  obtain ⟨g1, g2, g3, g4⟩ := h.grp d (refsM l) fun x hx => refsM_mem.2 ⟨x, hx, rfl⟩
  unfold wholeM
  have : t = 140 ∨ t = 240 ∨ t = 440 ∨ t = 540 := by unfold plainA at ht; omega
  rcases this with rfl | rfl | rfl | rfl
  · rw [g1, e1, k1]; omega
  · rw [g2, e2, k1]; omega
  · rw [g3, e3, k2]; omega
  · rw [g4, e4, k2]; omega
/-- All is eliminated. -/
theorem AgrL.elim {l : List Pst} (h : AgrL l) (d : Int) (hd : ∀ x ∈ l, x.day ≤ d) : elimQ d l (eachQ [1, 2, 3] (refsM l)) = parM l := by
  obtain ⟨k1, k2⟩ := h.kinds d
  have hw := h.within d hd (refsM l) fun x hx => refsM_mem.2 ⟨x, hx, rfl⟩
  rw [elimQ_sum]
  unfold eachQ
  rw [qsum_app, k1, k2]
  omega

end Go.Proofs.Ytdbpbmejgdbppaa
