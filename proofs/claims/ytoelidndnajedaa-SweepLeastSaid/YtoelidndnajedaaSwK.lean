/- Sweeping, as mathematics: plans, what posting them makes of the balances; of no function of the program; no condition. -/
import Derived.Test.YtoelidndnajedaaAcK
import Derived.Test.YtoelidndnajedaaAcB
namespace Go.Proofs.Ytoelidndnajedaa
open Go.RowKit Go.Lib Go.Proofs

structure Kp where
  sub : Int
  low : Int
  high : Int
def Kp.zero : Kp := ⟨0, 0, 0⟩
def kpC (k : Kp) : List Value := [.int .i64 k.sub, .int .i64 k.low, .int .i64 k.high]

/-- One rule is right, behind the sub-account of the one before it (0 at the front). -/
def kpB (l : List SubA) (prev : Int) (first : Bool) (k : Kp) : Bool := (atS l k.sub).isSome && !decide (k.sub = 1) && (first || decide (prev < k.sub)) && decide (0 ≤ k.low) && decide (k.low ≤ k.high) && decide (k.high ≤ 1000000000000)
def keepsB (l : List SubA) : Int → Bool → List Kp → Bool
  | _, _, [] => true
  | p, f, k :: ks => kpB l p f k && keepsB l k.sub false ks
def swCheckM (a : Acc) (ks : List Kp) : Int := if checkM a ≠ 0 then checkM a else if keepsB a.subs 0 true ks then 0 else 63

abbrev PS := List Ent × Int
def upX (l : List SubA) (k : Kp) : Int := min (balOf l k.sub - k.high) 1000000000000
def upStep (l : List SubA) (day n : Int) (s : PS) (k : Kp) : PS := if 0 < upX l k then (s.1 ++ [⟨n + 1 + s.1.length, day, k.sub, 1, upX l k, 0⟩], s.2 + upX l k) else s
def downX (l : List SubA) (m : Int) (k : Kp) : Int := min (k.low - balOf l k.sub) m
def downStep (l : List SubA) (day n : Int) (s : PS) (k : Kp) : PS := if 0 < downX l s.2 k then (s.1 ++ [⟨n + 1 + s.1.length, day, 1, k.sub, downX l s.2 k, 0⟩], s.2 - downX l s.2 k) else s
def upS (l : List SubA) (day n : Int) (ks : List Kp) : PS := ks.foldl (upStep l day n) ([], balOf l 1)
def planS (l : List SubA) (day n : Int) (ks : List Kp) : PS := ks.foldl (downStep l day n) (upS l day n ks)
def planM (a : Acc) (ks : List Kp) (day : Int) : Except Int (List Ent) :=
  if swCheckM a ks ≠ 0 then .error (swCheckM a ks)
  else if day < (lastE a.ents).day ∨ 36000 < day then .error 8
  else if 400 < a.ents.length + (planS a.subs day a.ents.length ks).1.length then .error 3
  else .ok (planS a.subs day a.ents.length ks).1

def postsM : Acc → List Ent → Except Int Acc
  | a, [] => .ok a
  | a, e :: es => match postM a e with
    | .error c => .error c
    | .ok b => postsM b es
def sweepM (a : Acc) (ks : List Kp) (day : Int) : Except Int Acc := match planM a ks day with
  | .error c => .error c
  | .ok es => postsM a es

theorem postsM_app : ∀ (a : Acc) (l k : List Ent), postsM a (l ++ k) = match postsM a l with
    | .error c => .error c
    | .ok b => postsM b k
  | a, [], k => rfl
  | a, e :: l, k => by
    simp only [List.cons_append, postsM]
    cases postM a e with
    | error c => rfl
    | ok b => exact postsM_app b l k
theorem postsM_snoc {a b : Acc} {l : List Ent} (h : postsM a l = .ok b) (e : Ent) : postsM a (l ++ [e]) = postM b e := by
  rw [postsM_app, h]
  simp only [postsM]
  cases postM b e <;> rfl

theorem keepsB_mem {l : List SubA} : ∀ {ks : List Kp} {p : Int} {f : Bool}, keepsB l p f ks = true → ∀ k ∈ ks, ((atS l k.sub).isSome = true ∧ k.sub ≠ 1 ∧ 0 ≤ k.low ∧ k.low ≤ k.high ∧ k.high ≤ 1000000000000) ∧ (f = false → p < k.sub)
  | [], _, _, _, k, hk => by cases hk
  | x :: ks, p, f, h, k, hk => by
    simp only [keepsB, kpB, Bool.and_eq_true, Bool.or_eq_true, decide_eq_true_eq, Bool.not_eq_true', decide_eq_false_iff_not] at h
    obtain ⟨⟨⟨⟨⟨⟨h1, h2⟩, h3⟩, h4⟩, h5⟩, h6⟩, h7⟩ := h
    rcases List.mem_cons.1 hk with rfl | hk
    · exact ⟨⟨h1, h2, h4, h5, h6⟩, fun hf => by rcases h3 with h3 | h3; (rw [hf] at h3; cases h3); exact h3⟩
    · obtain ⟨g1, g2⟩ := keepsB_mem h7 k hk
      exact ⟨g1, fun hf => by have := g2 rfl; rcases h3 with h3 | h3; (rw [hf] at h3; cases h3); omega⟩
theorem keepsB_pair {l : List SubA} : ∀ {ks : List Kp} {p : Int} {f : Bool}, keepsB l p f ks = true → ks.Pairwise (fun x y => x.sub < y.sub)
  | [], _, _, _ => List.Pairwise.nil
  | x :: ks, p, f, h => by
    simp only [keepsB, Bool.and_eq_true] at h
    exact List.Pairwise.cons (fun y hy => (keepsB_mem h.2 y hy).2 rfl) (keepsB_pair h.2)

/-- An entry between two known sub-accounts, of the next number, is possible. -/
theorem move_ok {b : Acc} {e : Ent} (h : checkM b = 0) (hl : b.ents.length < 400) (hn : e.number = b.ents.length + 1) (hd : (lastE b.ents).day ≤ e.day) (hd2 : 0 ≤ e.day) (hd3 : e.day ≤ 36000) (ha : 1 ≤ e.amount ∧ e.amount ≤ 1000000000000) (hr : e.ref = 0)
    (hne : e.frm ≠ e.to) (hf : (atS b.subs e.frm).isSome = true) (ht : (atS b.subs e.to).isSome = true) (h1 : e.amount ≤ balOf b.subs e.frm) (h2 : balOf b.subs e.to + e.amount ≤ 1000000000000000) :
    ∃ c, postM b e = .ok c ∧ checkM c = 0 ∧ c.ents = b.ents ++ [e] ∧ c.credit = b.credit ∧ c.subs.map SubA.id = b.subs.map SubA.id ∧ sumM c.subs = sumM b.subs ∧ ∀ x, (atS b.subs x).isSome = true → balOf c.subs x = balOf b.subs x + netE x e := by
  have hz := checkM_zero.1 h
  have hnz := noZero_plain hz.2.2.1
  have hno := right_number h
  obtain ⟨i, hi⟩ := Option.isSome_iff_exists.1 hf
  obtain ⟨j, hj⟩ := Option.isSome_iff_exists.1 ht
  have e1 : balOf b.subs e.frm = (subAt b.subs i).bal := by unfold balOf; rw [hi]
  have e2 : balOf b.subs e.to = (subAt b.subs j).bal := by unfold balOf; rw [hj]
  have hfr : e.frm ≠ 0 := fun h0 => by
    have := atS_some hi
    exact hnz _ (List.getElem_mem this.1) (by rw [← subAt_get this.1, this.2.1, h0])
  have hto : e.to ≠ 0 := fun h0 => by
    have := atS_some hj
    exact hnz _ (List.getElem_mem this.1) (by rw [← subAt_get this.1, this.2.1, h0])
  have hfault : faultE b.subs (lastE b.ents) e = 0 := by
    unfold faultE dayB' amtB
    rw [if_neg (by omega), if_neg (by rw [inB_true.2 ⟨hd2, hd3⟩]; simp; omega), if_neg (by rw [inB_true.2 ⟨by omega, ha.2⟩]; simp; omega), if_neg]
    rintro (q | ⟨_, q⟩ | ⟨_, q⟩)
    · exact hne q
    · rw [hi] at q; cases q
    · rw [hj] at q; cases q
  have t1 : takeM b.credit b.subs e.frm e.amount = some (bump b.subs i (-e.amount)) := by
    unfold takeM
    rw [hi]
    exact if_neg (by omega)
  have hj2 : atS (bump b.subs i (-e.amount)) e.to = some j := by rw [atS_ids _ (bump_ids _ _ _)]; exact hj
  have hij : j ≠ i := fun q => by
    have a1 := (atS_some hi).2.1
    have a2 := (atS_some hj).2.1
    rw [q] at a2
    exact hne (a1.symm.trans a2)
  have t2 : giveM (bump b.subs i (-e.amount)) e.to e.amount = some (bump (bump b.subs i (-e.amount)) j e.amount) := by
    unfold giveM
    rw [hj2]
    refine if_neg ?_
    rw [bump_at _ _ _ _ (atS_some hj).1, if_neg hij]
    omega
  have hadd : addM b.credit b.subs (lastE b.ents) e = .ok (bump (bump b.subs i (-e.amount)) j e.amount) := by
    unfold addM
    rw [if_pos hfault]
    simp only [t1, t2]
  have hpost : postM b e = .ok { b with subs := bump (bump b.subs i (-e.amount)) j e.amount, ents := b.ents ++ [e] } := by
    unfold postM
    rw [if_neg (by rw [h]; simp), if_neg (by omega), hadd]
  obtain ⟨_, p1, p2, p3, _, p4⟩ := postM_right hpost
  refine ⟨_, hpost, p1, p2, p3, addM_ids p4, ?_, fun x hx => addM_bal p4 hx⟩
  have := addM_sum p4 hnz
  unfold inE outE at this
  rw [if_neg hfr, if_neg hto] at this
  simp only at this ⊢
  omega

/-- What goes from the main sub-account, and what comes to it. -/
def givenL : List Ent → Int
  | [] => 0
  | e :: l => (if e.frm = 1 then e.amount else 0) + givenL l
def takenL : List Ent → Int
  | [] => 0
  | e :: l => (if e.frm = 1 then 0 else e.amount) + takenL l
theorem givenL_snoc (e : Ent) : ∀ l : List Ent, givenL (l ++ [e]) = givenL l + (if e.frm = 1 then e.amount else 0) ∧ takenL (l ++ [e]) = takenL l + (if e.frm = 1 then 0 else e.amount)
  | [] => by simp [givenL, takenL]
  | x :: l => by
    obtain ⟨h1, h2⟩ := givenL_snoc e l
    simp only [List.cons_append, givenL, takenL, h1, h2]
    omega

/-- What all of a plan's entries have in common, and how they run. -/
structure RunI (a : Acc) (day : Int) (s : PS) (b : Acc) : Prop where
  posts : postsM a s.1 = .ok b
  right : checkM b = 0
  ents : b.ents = a.ents ++ s.1
  credit : b.credit = a.credit
  ids : b.subs.map SubA.id = a.subs.map SubA.id
  sum : sumM b.subs = sumM a.subs
  main : balOf b.subs 1 = s.2
  last : (lastE b.ents).day ≤ day
  flow : s.2 = balOf a.subs 1 + takenL s.1 - givenL s.1
  ends : ∀ e ∈ s.1, (e.frm = 1 ∨ e.to = 1) ∧ 1 ≤ e.amount ∧ e.ref = 0 ∧ e.day = day

theorem sum_ge : ∀ {l : List SubA} {i : Nat}, i < l.length → (∀ j, j < l.length → j ≠ i → 0 ≤ (subAt l j).bal) → (subAt l i).bal ≤ sumM l
  | [], _, h, _ => by simp at h
  | s :: l, 0, _, hp => by
    have h0 : ∀ (m : List SubA), (∀ j, j < m.length → 0 ≤ (subAt m j).bal) → 0 ≤ sumM m := fun m => by
      induction m with
      | nil => intro _; exact Int.le_refl _
      | cons t m ih =>
        intro hm
        rw [sumM_cons]
        have := hm 0 (by simp)
        have g := ih fun j hj => by have := hm (j + 1) (by simpa using hj); simpa [subAt] using this
        simp only [subAt, List.getD_cons_zero] at this
        omega
    have := h0 l fun j hj => by have := hp (j + 1) (by simpa using hj) (by omega); simpa [subAt] using this
    rw [sumM_cons]
    simp only [subAt, List.getD_cons_zero]
    omega
  | s :: l, i + 1, h, hp => by
    have ih := sum_ge (l := l) (i := i) (by simpa using h) fun j hj hne => by have := hp (j + 1) (by simpa using hj) (by omega); simpa [subAt] using this
    have := hp 0 (by simp) (by omega)
    rw [sumM_cons]
    simp only [subAt, List.getD_cons_zero, List.getD_cons_succ] at this ih ⊢
    omega

theorem right_one {a : Acc} (h : checkM a = 0) : atS a.subs 1 = some 0 := by
  have hz := (checkM_zero.1 h).2.2.1
  unfold plainM at hz
  rw [Bool.and_eq_true] at hz
  have := of_decide_eq_true hz.2
  exact atS_mk (by omega) this.2.1 fun j hj => by omega
theorem right_nonneg {a : Acc} (h : checkM a = 0) {x : Int} (hx : x ≠ 1) : 0 ≤ balOf a.subs x := by
  unfold balOf
  cases hat : atS a.subs x with
  | none => exact Int.le_refl _
  | some i =>
    obtain ⟨h1, h2, _⟩ := atS_some hat
    have := right_bals h _ (List.getElem_mem h1)
    rw [← subAt_get h1] at this
    have h3 := this.1
    rw [h2] at h3
    simp only
    omega
theorem right_pos {a : Acc} (h : checkM a = 0) : ∀ j, j < a.subs.length → j ≠ 0 → 0 ≤ (subAt a.subs j).bal := fun j hj hne => by
  have := right_bals h _ (List.getElem_mem hj)
  rw [← subAt_get hj] at this
  have h3 := this.1
  have hz := (checkM_zero.1 h).2.2.1
  unfold plainM at hz
  rw [Bool.and_eq_true] at hz
  have hh := of_decide_eq_true hz.2
  have hlt : ∀ q, 0 < q → q < a.subs.length → 1 < (subAt a.subs q).id := fun q => by
    induction q with
    | zero => intro h; omega
    | succ q ih =>
      intro _ hq
      have h5 := hh.2.2.2 (q + 1) hq (by omega)
      rw [Nat.add_sub_cancel] at h5
      by_cases h0 : q = 0
      · rw [h0] at h5 ⊢; omega
      · have := ih (by omega) (by omega); omega
  have := hlt j (by omega) hj
  omega
theorem main_le {a : Acc} (h : checkM a = 0) : balOf a.subs 1 ≤ sumM a.subs := by
  have h1 := right_one h
  unfold balOf
  rw [h1]
  exact sum_ge (atS_some h1).1 (right_pos h)
theorem main_two {a : Acc} (h : checkM a = 0) {x : Int} (hx : x ≠ 1) : balOf a.subs 1 + balOf a.subs x ≤ sumM a.subs := by
  have h1 := right_one h
  cases hj : atS a.subs x with
  | none =>
    have : balOf a.subs x = 0 := by unfold balOf; rw [hj]
    have := main_le h
    omega
  | some j =>
    have e1 : balOf a.subs 1 = (subAt a.subs 0).bal := by unfold balOf; rw [h1]
    have e2 : balOf a.subs x = (subAt a.subs j).bal := by unfold balOf; rw [hj]
    have q0 := atS_some h1
    have qj := atS_some hj
    have hne : (0 : Nat) ≠ j := fun e => by
      rw [← e, q0.2.1] at qj
      exact hx qj.2.1.symm
    have hs := sum_ge (l := bump a.subs j (-(subAt a.subs j).bal)) (i := 0) (by rw [bump_len]; exact q0.1) fun i hi hn => by
      rw [bump_len] at hi
      rw [bump_at _ _ _ _ hi]
      split
      · simp only; omega
      · exact right_pos h i hi hn
    rw [bump_at _ _ _ _ q0.1, if_neg hne, sumM_bump _ _ _ qj.1] at hs
    omega

theorem lastE_app {l : List Ent} {e : Ent} : lastE (l ++ [e]) = e := lastE_snoc l e

/-- One more move. -/
theorem RunI.step {a b : Acc} {day : Int} {s : PS} (h : RunI a day s b) {frm to x : Int} (hl : a.ents.length + s.1.length < 400) (hd2 : 0 ≤ day) (hd3 : day ≤ 36000) (hx : 1 ≤ x ∧ x ≤ 1000000000000) (hne : frm ≠ to) (h1 : frm = 1 ∨ to = 1) (hf : (atS a.subs frm).isSome = true) (ht : (atS a.subs to).isSome = true)
    (hb1 : x ≤ balOf b.subs frm) (hb2 : balOf b.subs to + x ≤ 1000000000000000) :
    ∃ c, RunI a day (s.1 ++ [⟨a.ents.length + 1 + s.1.length, day, frm, to, x, 0⟩], if frm = 1 then s.2 - x else s.2 + x) c ∧ ∀ y, (atS a.subs y).isSome = true → balOf c.subs y = balOf b.subs y + (if y = to then x else 0) - (if y = frm then x else 0) := by
  have hat : ∀ y, atS b.subs y = atS a.subs y := fun y => atS_ids y h.ids
  obtain ⟨c, c1, c2, c3, c4, c5, c6, c7⟩ := move_ok (b := b) (e := ⟨a.ents.length + 1 + s.1.length, day, frm, to, x, 0⟩) h.right (by rw [h.ents]; simp; omega) (by rw [h.ents]; simp; omega) h.last hd2 hd3 hx rfl hne (by rw [hat]; exact hf) (by rw [hat]; exact ht) hb1 hb2
  have key : ∀ y, (atS a.subs y).isSome = true → balOf c.subs y = balOf b.subs y + (if y = to then x else 0) - (if y = frm then x else 0) := fun y hy => by
    rw [c7 y (by rw [hat]; exact hy)]
    simp only [netE]
    omega
  refine ⟨c, ⟨(postsM_snoc h.posts _).trans c1, c2, by rw [c3, h.ents, List.append_assoc], c4.trans h.credit, c5.trans h.ids, c6.trans h.sum, ?_, by rw [c3, lastE_snoc]; exact Int.le_refl _, ?_, fun e he => ?_⟩, key⟩
  · have hone : (atS a.subs 1).isSome = true := by rw [← hat, right_one h.right]; rfl
    rw [key 1 hone, h.main]
    simp only
    rcases h1 with rfl | rfl
    · rw [if_neg hne, if_pos rfl, if_pos rfl]; omega
    · rw [if_pos rfl, if_neg (Ne.symm hne), if_neg hne]; omega
  · obtain ⟨g1, g2⟩ := givenL_snoc ⟨a.ents.length + 1 + s.1.length, day, frm, to, x, 0⟩ s.1
    have hfl := h.flow
    simp only [g1, g2]
    split <;> omega
  · rcases List.mem_append.1 he with he | he
    · exact h.ends e he
    · rw [List.mem_singleton] at he
      rw [he]
      exact ⟨h1, hx.1, rfl, rfl⟩

/-- What a rule's sub-account has when what is too much has gone. -/
def upB (a : Acc) (k : Kp) : Int := if 0 < upX a.subs k then balOf a.subs k.sub - upX a.subs k else balOf a.subs k.sub

structure UpI (a : Acc) (day : Int) (dn td : List Kp) (s : PS) (b : Acc) : Prop where
  run : RunI a day s b
  len : s.1.length ≤ dn.length
  none : givenL s.1 = 0
  past : ∀ k ∈ dn, balOf b.subs k.sub = upB a k
  next : ∀ k ∈ td, balOf b.subs k.sub = balOf a.subs k.sub

theorem up_all {a : Acc} {day : Int} (hr : checkM a = 0) (hd2 : 0 ≤ day) (hd3 : day ≤ 36000) (hs : sumM a.subs ≤ 1000000000000000) :
    ∀ (td dn : List Kp) (s : PS) (b : Acc), UpI a day dn td s b → (∀ k ∈ dn ++ td, (atS a.subs k.sub).isSome = true ∧ k.sub ≠ 1 ∧ 0 ≤ k.low ∧ k.low ≤ k.high ∧ k.high ≤ 1000000000000) → (dn ++ td).Pairwise (fun x y => x.sub < y.sub) → a.ents.length + (dn ++ td).length ≤ 400 →
      ∃ c, UpI a day (dn ++ td) [] (td.foldl (upStep a.subs day a.ents.length) s) c
  | [], dn, s, b, h, _, _, _ => ⟨b, by rw [List.append_nil]; exact h⟩
  | k :: td, dn, s, b, h, hk, hp, hlen => by
    have hkk := hk k (by simp)
    have hbk := h.next k List.mem_cons_self
    have hpp := List.pairwise_append.1 hp
    have hone : (atS a.subs 1).isSome = true := by rw [right_one hr]; rfl
    have hcat : dn ++ k :: td = (dn ++ [k]) ++ td := by simp
    rw [hcat] at hk hp hlen ⊢
    simp only [List.foldl_cons]
    have hll := h.len
    simp only [List.length_append, List.length_cons, List.length_nil] at hlen
    by_cases hx : 0 < upX a.subs k
    · have hxb : upX a.subs k ≤ 1000000000000 := by unfold upX; omega
      have hxh : upX a.subs k ≤ balOf a.subs k.sub := by unfold upX; omega
      have hm := main_le h.run.right
      rw [h.run.sum] at hm
      have htwo := main_two h.run.right hkk.2.1
      obtain ⟨c, c1, c2⟩ := h.run.step (frm := k.sub) (to := 1) (x := upX a.subs k) (by omega) hd2 hd3 ⟨by omega, hxb⟩ hkk.2.1 (Or.inr rfl) hkk.1 hone (by rw [hbk]; exact hxh) (by
        rw [hbk, h.run.sum] at htwo
        omega)
      rw [if_neg hkk.2.1] at c1
      refine up_all hr hd2 hd3 hs td (dn ++ [k]) _ c ⟨by unfold upStep; rw [if_pos hx]; exact c1, by unfold upStep; rw [if_pos hx]; simp; omega, by unfold upStep; rw [if_pos hx]; simp only [(givenL_snoc _ _).1, h.none]; rw [if_neg hkk.2.1]; rfl, fun y hy => ?_, fun y hy => ?_⟩ hk hp (by simp; omega)
      · rcases List.mem_append.1 hy with hy | hy
        · have hlt := hpp.2.2 y hy k List.mem_cons_self
          have hyk := hk y (by simp [hy])
          rw [c2 y.sub hyk.1, h.past y hy, if_neg hyk.2.1, if_neg (by omega)]
          omega
        · rw [List.mem_singleton] at hy
          subst hy
          rw [c2 _ hkk.1, hbk, if_neg hkk.2.1, if_pos rfl]
          unfold upB
          rw [if_pos hx]
          omega
      · have hlt := (List.pairwise_cons.1 hpp.2.1).1 y hy
        have hyk := hk y (by simp [hy])
        rw [c2 y.sub hyk.1, h.next y (List.mem_cons_of_mem _ hy), if_neg hyk.2.1, if_neg (by omega)]
        omega
    · have hst : upStep a.subs day a.ents.length s k = s := by unfold upStep; rw [if_neg hx]
      rw [hst]
      refine up_all hr hd2 hd3 hs td (dn ++ [k]) s b ⟨h.run, by simp; omega, h.none, fun y hy => ?_, fun y hy => h.next y (List.mem_cons_of_mem _ hy)⟩ hk hp (by simp; omega)
      rcases List.mem_append.1 hy with hy | hy
      · exact h.past y hy
      · rw [List.mem_singleton] at hy
        subst hy
        rw [hbk]
        unfold upB
        rw [if_neg hx]

def shortL (l : List SubA) : List Kp → Int
  | [] => 0
  | k :: ks => max (k.low - balOf l k.sub) 0 + shortL l ks
theorem shortL_app (l : List SubA) (k : Kp) : ∀ ks : List Kp, shortL l (ks ++ [k]) = shortL l ks + max (k.low - balOf l k.sub) 0
  | [] => by simp [shortL]
  | x :: ks => by simp only [List.cons_append, shortL, shortL_app l k ks]; omega
theorem shortL_same {l m : List SubA} : ∀ {ks : List Kp}, (∀ k ∈ ks, balOf l k.sub = balOf m k.sub) → shortL l ks = shortL m ks
  | [], _ => rfl
  | k :: ks, h => by
    simp only [shortL, h k List.mem_cons_self, shortL_same (ks := ks) fun x hx => h x (List.mem_cons_of_mem _ hx)]

structure DnI (a : Acc) (day : Int) (m0 : Int) (N : Nat) (dn td : List Kp) (s : PS) (b : Acc) : Prop where
  run : RunI a day s b
  len : s.1.length ≤ N + dn.length
  gives : givenL s.1 = m0 - s.2
  mono : s.2 ≤ m0 ∧ (0 ≤ s.2 ∨ s.2 = m0)
  past : ∀ k ∈ dn, (balOf b.subs k.sub = upB a k ∨ (upB a k < k.low ∧ upB a k ≤ balOf b.subs k.sub ∧ balOf b.subs k.sub ≤ k.low)) ∧ (balOf b.subs k.sub < k.low → s.2 ≤ 0)
  next : ∀ k ∈ td, balOf b.subs k.sub = upB a k
  short : shortL b.subs dn + (m0 - s.2) = shortL a.subs dn

theorem down_all {a : Acc} {day : Int} (hr : checkM a = 0) (hd2 : 0 ≤ day) (hd3 : day ≤ 36000) (m0 : Int) (N : Nat) :
    ∀ (td dn : List Kp) (s : PS) (b : Acc), DnI a day m0 N dn td s b → (∀ k ∈ dn ++ td, (atS a.subs k.sub).isSome = true ∧ k.sub ≠ 1 ∧ 0 ≤ k.low ∧ k.low ≤ k.high ∧ k.high ≤ 1000000000000) → (dn ++ td).Pairwise (fun x y => x.sub < y.sub) → a.ents.length + N + (dn ++ td).length ≤ 400 →
      ∃ c, DnI a day m0 N (dn ++ td) [] (td.foldl (downStep a.subs day a.ents.length) s) c
  | [], dn, s, b, h, _, _, _ => ⟨b, by rw [List.append_nil]; exact h⟩
  | k :: td, dn, s, b, h, hk, hp, hlen => by
    have hkk := hk k (by simp)
    have hbk := h.next k List.mem_cons_self
    have hpp := List.pairwise_append.1 hp
    have hone : (atS a.subs 1).isSome = true := by rw [right_one hr]; rfl
    have hcat : dn ++ k :: td = (dn ++ [k]) ++ td := by simp
    rw [hcat] at hk hp hlen ⊢
    simp only [List.foldl_cons]
    have hll := h.len
    simp only [List.length_append, List.length_cons, List.length_nil] at hlen
    have hupb : (0 < upX a.subs k ∧ k.low ≤ upB a k ∧ balOf a.subs k.sub > k.low) ∨ upB a k = balOf a.subs k.sub := by
      unfold upB
      by_cases hx : 0 < upX a.subs k
      · rw [if_pos hx]
        have hx' := hx
        unfold upX at hx'
        refine Or.inl ⟨hx, ?_, ?_⟩
        · unfold upX; omega
        · omega
      · rw [if_neg hx]
        exact Or.inr rfl
    have hmono := h.mono
    have hgv := h.gives
    have hsh := h.short
    by_cases hx : 0 < downX a.subs s.2 k
    · have hx2 : downX a.subs s.2 k ≤ k.low - balOf a.subs k.sub := by unfold downX; omega
      have hx3 : downX a.subs s.2 k ≤ s.2 := by unfold downX; omega
      have hx4 : downX a.subs s.2 k = s.2 ∨ downX a.subs s.2 k = k.low - balOf a.subs k.sub := by unfold downX; omega
      have hub : upB a k = balOf a.subs k.sub := by rcases hupb with q | q; omega; exact q
      have hnn := right_nonneg hr hkk.2.1
      obtain ⟨c, c1, c2⟩ := h.run.step (frm := 1) (to := k.sub) (x := downX a.subs s.2 k) (by omega) hd2 hd3 ⟨by omega, by omega⟩ (Ne.symm hkk.2.1) (Or.inl rfl) hone hkk.1 (by rw [h.run.main]; exact hx3) (by rw [hbk, hub]; omega)
      rw [if_pos rfl] at c1
      have hold : ∀ y ∈ dn ++ [k] ++ td, y.sub ≠ k.sub → balOf c.subs y.sub = balOf b.subs y.sub := fun y hy hne => by
        have hyk := hk y hy
        rw [c2 y.sub hyk.1, if_neg hne, if_neg hyk.2.1]
        omega
      have hnew : balOf c.subs k.sub = balOf b.subs k.sub + downX a.subs s.2 k := by
        rw [c2 _ hkk.1, if_pos rfl, if_neg hkk.2.1]
        omega
      have hst : downStep a.subs day a.ents.length s k = (s.1 ++ [⟨a.ents.length + 1 + s.1.length, day, 1, k.sub, downX a.subs s.2 k, 0⟩], s.2 - downX a.subs s.2 k) := if_pos hx
      rw [hst]
      refine down_all hr hd2 hd3 m0 N td (dn ++ [k]) _ c ⟨c1, by simp; omega, by simp only [(givenL_snoc _ _).1, if_true]; omega, by simp only; omega, fun y hy => ?_, fun y hy => ?_, ?_⟩ hk hp (by simp; omega)
      · rcases List.mem_append.1 hy with hy | hy
        · have hlt := hpp.2.2 y hy k List.mem_cons_self
          rw [hold y (by simp [hy]) (by omega)]
          have := h.past y hy
          exact ⟨this.1, fun q => by have := this.2 q; simp only; omega⟩
        · rw [List.mem_singleton] at hy
          subst hy
          rw [hnew, hbk, hub]
          refine ⟨Or.inr ⟨by omega, by omega, by omega⟩, fun q => ?_⟩
          simp only
          omega
      · have hlt := (List.pairwise_cons.1 hpp.2.1).1 y hy
        rw [hold y (by simp [hy]) (by omega), h.next y (List.mem_cons_of_mem _ hy)]
      · rw [shortL_app, shortL_app, hnew, hbk, hub]
        have : shortL c.subs dn = shortL b.subs dn := shortL_same fun y hy => hold y (by simp [hy]) (by have hlt := hpp.2.2 y hy k List.mem_cons_self; omega)
        rw [this]
        simp only
        omega
    · have hst : downStep a.subs day a.ents.length s k = s := if_neg hx
      rw [hst]
      refine down_all hr hd2 hd3 m0 N td (dn ++ [k]) s b ⟨h.run, by simp; omega, h.gives, h.mono, fun y hy => ?_, fun y hy => h.next y (List.mem_cons_of_mem _ hy), ?_⟩ hk hp (by simp; omega)
      · rcases List.mem_append.1 hy with hy | hy
        · exact h.past y hy
        · rw [List.mem_singleton] at hy
          subst hy
          rw [hbk]
          refine ⟨Or.inl rfl, fun q => ?_⟩
          unfold downX at hx
          rcases hupb with q2 | q2 <;> omega
      · rw [shortL_app, shortL_app, hbk]
        have : max (k.low - upB a k) 0 = max (k.low - balOf a.subs k.sub) 0 := by rcases hupb with q2 | q2 <;> omega
        rw [this]
        omega

/-- What a sweep does to a right account in which there is room: all at once. -/
structure Swept (a : Acc) (ks : List Kp) (day : Int) (es : List Ent) (b : Acc) : Prop where
  plan : planM a ks day = .ok es
  run : RunI a day (es, balOf b.subs 1) b
  len : es.length ≤ 2 * ks.length
  gives : givenL es = balOf a.subs 1 + takenL es - balOf b.subs 1
  mono : givenL es ≤ max (balOf a.subs 1 + takenL es) 0
  each : ∀ k ∈ ks, (balOf b.subs k.sub = upB a k ∨ (upB a k < k.low ∧ upB a k ≤ balOf b.subs k.sub ∧ balOf b.subs k.sub ≤ k.low)) ∧ (balOf b.subs k.sub < k.low → balOf b.subs 1 ≤ 0)
  short : shortL b.subs ks = shortL a.subs ks - givenL es

theorem sweep_all {a : Acc} {ks : List Kp} {day : Int} (hr : checkM a = 0) (hk : keepsB a.subs 0 true ks = true) (hd : (lastE a.ents).day ≤ day) (hd2 : 0 ≤ day) (hd3 : day ≤ 36000) (hs : sumM a.subs ≤ 1000000000000000) (hlen : a.ents.length + 2 * ks.length ≤ 400) :
    ∃ es b, Swept a ks day es b := by
  have hmem : ∀ k ∈ ks, (atS a.subs k.sub).isSome = true ∧ k.sub ≠ 1 ∧ 0 ≤ k.low ∧ k.low ≤ k.high ∧ k.high ≤ 1000000000000 := fun k hkk => (keepsB_mem hk k hkk).1
  have hpair := keepsB_pair hk
  obtain ⟨b1, h1⟩ := up_all hr hd2 hd3 hs ks [] ([], balOf a.subs 1) a ⟨⟨rfl, hr, by simp, rfl, rfl, rfl, rfl, hd, by simp [takenL, givenL], fun e he => by cases he⟩, by simp, rfl, fun k hkk => (by cases hkk), fun k _ => rfl⟩ (by simpa using hmem) (by simpa using hpair) (by simp; omega)
  rw [List.nil_append] at h1
  have hfl := h1.run.flow
  have hno := h1.none
  obtain ⟨b2, h2⟩ := down_all hr hd2 hd3 (ks.foldl (upStep a.subs day a.ents.length) ([], balOf a.subs 1)).2 ks.length ks [] _ b1 ⟨h1.run, by have := h1.len; simpa using this, by rw [hno]; omega, ⟨Int.le_refl _, Or.inr rfl⟩, fun k hkk => (by cases hkk), fun k hkk => h1.past k hkk, by simp [shortL]⟩ (by simpa using hmem) (by simpa using hpair) (by simp; omega)
  rw [List.nil_append] at h2
  have hp2 : ks.foldl (downStep a.subs day a.ents.length) (ks.foldl (upStep a.subs day a.ents.length) ([], balOf a.subs 1)) = planS a.subs day a.ents.length ks := rfl
  rw [hp2] at h2
  have hln := h2.len
  have hm := h2.run.main
  have hmo := h2.mono
  have hgi := h2.gives
  have hf2 := h2.run.flow
  refine ⟨(planS a.subs day a.ents.length ks).1, b2, ?_, ?_, by omega, ?_, ?_, fun k hkk => ?_, ?_⟩
  · unfold planM swCheckM
    rw [hr, hk]
    rw [if_neg (by simp), if_neg (by omega), if_neg (by omega)]
  · rw [hm]; exact h2.run
  · omega
  · omega
  · have := h2.past k hkk
    rw [hm]
    exact this
  · have := h2.short
    omega

/-- Behind a sweep nothing is left to do. -/
theorem swept_again {a b : Acc} {ks : List Kp} {day : Int} {es : List Ent} (h : Swept a ks day es b) (hk : keepsB a.subs 0 true ks = true) (hd3 : day ≤ 36000) (hbig : ∀ k ∈ ks, balOf a.subs k.sub ≤ 1000000000000) : planM b ks day = .ok [] := by
  have hids := h.run.ids
  have hkb : ∀ (ks : List Kp) (p : Int) (f : Bool), keepsB b.subs p f ks = keepsB a.subs p f ks := fun ks => by
    induction ks with
    | nil => intro p f; rfl
    | cons k ks ih => intro p f; simp only [keepsB, kpB, atS_ids _ hids, ih]
  have hup : ∀ (l : List Kp), (∀ k ∈ l, k ∈ ks) → l.foldl (upStep b.subs day b.ents.length) ([], balOf b.subs 1) = ([], balOf b.subs 1) := fun l => by
    induction l with
    | nil => intro _; rfl
    | cons k l ih =>
      intro hl
      have hkm := hl k List.mem_cons_self
      have hkk := (keepsB_mem hk k hkm).1
      have he := (h.each k hkm).1
      have hbg := hbig k hkm
      have h0 : ¬ 0 < upX b.subs k := by
        unfold upX
        have hub : upB a k ≤ k.high := by unfold upB upX; split <;> omega
        omega
      simp only [List.foldl_cons]
      rw [show upStep b.subs day b.ents.length ([], balOf b.subs 1) k = ([], balOf b.subs 1) from if_neg h0]
      exact ih fun x hx => hl x (List.mem_cons_of_mem _ hx)
  have hdn : ∀ (l : List Kp), (∀ k ∈ l, k ∈ ks) → l.foldl (downStep b.subs day b.ents.length) ([], balOf b.subs 1) = ([], balOf b.subs 1) := fun l => by
    induction l with
    | nil => intro _; rfl
    | cons k l ih =>
      intro hl
      have hkm := hl k List.mem_cons_self
      have he := (h.each k hkm).2
      have h0 : ¬ 0 < downX b.subs (balOf b.subs 1) k := by
        unfold downX
        omega
      simp only [List.foldl_cons]
      rw [show downStep b.subs day b.ents.length ([], balOf b.subs 1) k = ([], balOf b.subs 1) from if_neg h0]
      exact ih fun x hx => hl x (List.mem_cons_of_mem _ hx)
  have hpl : planS b.subs day b.ents.length ks = ([], balOf b.subs 1) := by
    unfold planS upS
    rw [hup ks fun _ hx => hx, hdn ks fun _ hx => hx]
  have hlast := h.run.last
  have hl400 := (checkM_zero.1 h.run.right).2.1
  unfold planM swCheckM
  rw [hpl, h.run.right, hkb, hk]
  rw [if_neg (by simp), if_neg (by omega), if_neg (by simp; omega)]

def keptL (l : List SubA) (ks : List Kp) : Bool := ks.all fun k => decide (k.low ≤ balOf l k.sub) && decide (balOf l k.sub ≤ k.high)
def keptM (a : Acc) (ks : List Kp) : Bool := if swCheckM a ks = 0 then keptL a.subs ks else false
def shortM (a : Acc) (ks : List Kp) : Int := if swCheckM a ks = 0 then shortL a.subs ks else 0
theorem shortL_nonneg (l : List SubA) : ∀ ks : List Kp, 0 ≤ shortL l ks
  | [] => Int.le_refl _
  | k :: ks => by have := shortL_nonneg l ks; simp only [shortL]; omega
theorem shortL_zero {l : List SubA} : ∀ {ks : List Kp}, shortL l ks = 0 → ∀ k ∈ ks, k.low ≤ balOf l k.sub
  | [], _, k, hk => by cases hk
  | x :: ks, h, k, hk => by
    have h0 := shortL_nonneg l ks
    simp only [shortL] at h
    rcases List.mem_cons.1 hk with rfl | hk
    · omega
    · exact shortL_zero (by omega) k hk
theorem shortL_of {l : List SubA} : ∀ {ks : List Kp}, (∀ k ∈ ks, k.low ≤ balOf l k.sub) → shortL l ks = 0
  | [], _ => rfl
  | x :: ks, h => by
    simp only [shortL, shortL_of (ks := ks) fun k hk => h k (List.mem_cons_of_mem _ hk)]
    have := h x List.mem_cons_self
    omega

/-- The laws: Kept is 'nothing missing', and where it is not so, the main sub-account has nothing. -/
theorem swept_kept {a b : Acc} {ks : List Kp} {day : Int} {es : List Ent} (h : Swept a ks day es b) (hk : keepsB a.subs 0 true ks = true) (hbig : ∀ k ∈ ks, balOf a.subs k.sub ≤ 1000000000000) : (keptL b.subs ks = true ∨ balOf b.subs 1 ≤ 0) ∧ keptL b.subs ks = decide (shortL b.subs ks = 0) := by
  have hhi : ∀ k ∈ ks, balOf b.subs k.sub ≤ k.high := fun k hkm => by
    have hkk := (keepsB_mem hk k hkm).1
    have he := (h.each k hkm).1
    have hbg := hbig k hkm
    have hub : upB a k ≤ k.high := by unfold upB upX; split <;> omega
    omega
  have hiff : keptL b.subs ks = true ↔ shortL b.subs ks = 0 := by
    unfold keptL
    rw [List.all_eq_true]
    constructor
    · intro hh
      refine shortL_of fun k hkm => ?_
      have := hh k hkm
      simp only [Bool.and_eq_true, decide_eq_true_eq] at this
      exact this.1
    · intro hh k hkm
      simp only [Bool.and_eq_true, decide_eq_true_eq]
      exact ⟨shortL_zero hh k hkm, hhi k hkm⟩
  refine ⟨?_, ?_⟩
  · by_cases hz : shortL b.subs ks = 0
    · exact Or.inl (hiff.2 hz)
    · refine Or.inr ?_
      have : ¬ ∀ k ∈ ks, k.low ≤ balOf b.subs k.sub := fun hh => hz (shortL_of hh)
      obtain ⟨k, hk2⟩ := Classical.not_forall.1 this
      obtain ⟨hk3, hk4⟩ := Classical.not_imp.1 hk2
      exact (h.each k hk3).2 (by omega)
  · by_cases hz : shortL b.subs ks = 0
    · rw [hiff.2 hz, decide_eq_true hz]
    · rw [decide_eq_false hz]
      cases hq : keptL b.subs ks with
      | true => exact absurd (hiff.1 hq) hz
      | false => rfl


theorem keepsB_of {l : List SubA} : ∀ {ks : List Kp} {p : Int} {f : Bool}, (∀ k ∈ ks, (atS l k.sub).isSome = true ∧ k.sub ≠ 1 ∧ 0 ≤ k.low ∧ k.low ≤ k.high ∧ k.high ≤ 1000000000000) → ks.Pairwise (fun x y => x.sub < y.sub) → (f = true ∨ ∀ k ∈ ks, p < k.sub) → keepsB l p f ks = true
  | [], _, _, _, _, _ => rfl
  | k :: ks, p, f, h, hp, hf => by
    obtain ⟨h1, h2, h3, h4, h5⟩ := h k List.mem_cons_self
    have hp' := List.pairwise_cons.1 hp
    simp only [keepsB, kpB, Bool.and_eq_true, Bool.or_eq_true, decide_eq_true_eq, Bool.not_eq_true', decide_eq_false_iff_not]
    refine ⟨⟨⟨⟨⟨⟨h1, h2⟩, ?_⟩, h3⟩, h4⟩, h5⟩, keepsB_of (fun x hx => h x (List.mem_cons_of_mem _ hx)) hp'.2 (Or.inr hp'.1)⟩
    rcases hf with hf | hf
    · exact Or.inl hf
    · exact Or.inr (hf k List.mem_cons_self)

/-- The greatest sub-account of the first j rules. -/
def topK (j : Nat) : Int := if j = 0 then 1 else if j = 1 then 2 else if j = 2 then 3 else 7
structure KeepsUp (j : Nat) (ks : List Kp) : Prop where
  mem : ∀ k ∈ ks, (k.sub = 2 ∨ k.sub = 3 ∨ k.sub = 7) ∧ k.sub ≤ topK j ∧ 0 ≤ k.low ∧ k.low ≤ 80 ∧ k.low ≤ k.high ∧ k.high ≤ 380
  pair : ks.Pairwise (fun x y => x.sub < y.sub)
  len : ks.length ≤ j
theorem keepsUp_zero : KeepsUp 0 [] := ⟨fun k hk => (by cases hk), List.Pairwise.nil, Nat.le_refl _⟩
theorem KeepsUp.skip {j : Nat} {ks : List Kp} (h : KeepsUp j ks) : KeepsUp (j + 1) ks :=
  ⟨fun k hk => by
    have := h.mem k hk
    have ht : topK j ≤ topK (j + 1) := by unfold topK; (repeat' split) <;> omega
    exact ⟨this.1, by omega, this.2.2⟩, h.pair, by have := h.len; omega⟩
theorem KeepsUp.add {j : Nat} {ks : List Kp} (h : KeepsUp j ks) {s lo hi : Int} (hs : s = topK (j + 1)) (hj : j < 3) (h0 : 0 ≤ lo) (h1 : lo ≤ 80) (h2 : lo ≤ hi) (h3 : hi ≤ 380) : KeepsUp (j + 1) (ks ++ [⟨s, lo, hi⟩]) := by
  have ht : topK j < topK (j + 1) := by
    rcases (by omega : j = 0 ∨ j = 1 ∨ j = 2) with rfl | rfl | rfl <;> decide
  refine ⟨fun k hk => ?_, List.pairwise_append.2 ⟨h.pair, List.pairwise_singleton _ _, fun x hx y hy => ?_⟩, by have := h.len; simp; omega⟩
  · rcases List.mem_append.1 hk with hk | hk
    · have := h.mem k hk
      exact ⟨this.1, by omega, this.2.2⟩
    · rw [List.mem_singleton] at hk
      subst hk
      refine ⟨?_, by simp only; omega, h0, h1, h2, h3⟩
      simp only
      rcases (by omega : j = 0 ∨ j = 1 ∨ j = 2) with rfl | rfl | rfl
      · exact Or.inl hs
      · exact Or.inr (Or.inl hs)
      · exact Or.inr (Or.inr hs)
  · rw [List.mem_singleton] at hy
    subst hy
    have := h.mem x hx
    simp only
    omega

theorem at_of_ids {l : List SubA} {ids : List Int} (h : l.map SubA.id = ids) {x : Int} (hx : x ∈ ids) : (atS l x).isSome = true := by
  cases hs : atS l x with
  | some i => rfl
  | none =>
    rw [← h] at hx
    obtain ⟨s, hs1, hs2⟩ := List.mem_map.1 hx
    exact absurd hs2 (atS_none.1 hs s hs1)
theorem KeepsUp.right {j : Nat} {ks : List Kp} (h : KeepsUp j ks) {l : List SubA} (hl : l.map SubA.id = [1, 2, 3, 7]) : keepsB l 0 true ks = true :=
  keepsB_of (fun k hk => by
    have := h.mem k hk
    refine ⟨at_of_ids hl ?_, by omega, by omega, by omega, by omega⟩
    rcases this.1 with e | e | e <;> rw [e] <;> decide) h.pair (Or.inl rfl)

/-! ### The chapter's example -/
def poorA : Acc := ⟨0, [⟨1, 10⟩, ⟨2, 0⟩, ⟨3, 0⟩], [⟨1, 0, 0, 1, 10, 0⟩]⟩
def poorB : Acc := ⟨0, [⟨1, 0⟩, ⟨2, 8⟩, ⟨3, 2⟩], [⟨1, 0, 0, 1, 10, 0⟩, ⟨2, 0, 1, 2, 8, 0⟩, ⟨3, 0, 1, 3, 2, 0⟩]⟩
def poor0 : Acc := ⟨0, [⟨1, 0⟩, ⟨2, 0⟩, ⟨3, 0⟩], []⟩
def poorK : List Kp := [⟨2, 8, 8⟩, ⟨3, 8, 8⟩]
theorem poor_open : openM [1, 2, 3] 0 = .ok poor0 := rfl
theorem poor_next : nextM poor0.ents 0 0 1 10 0 = ⟨1, 0, 0, 1, 10, 0⟩ := rfl
theorem poor_post : postM poor0 ⟨1, 0, 0, 1, 10, 0⟩ = .ok poorA := rfl
theorem poor_sweep : sweepM poorA poorK 0 = .ok poorB := by rfl
theorem poor_bal2 : balanceM poorB 2 = (8, true) := rfl
theorem poor_bal3 : balanceM poorB 3 = (2, true) := rfl

/-! ### Accounts as the statements make them -/
theorem sumM_le {B : Int} : ∀ {l : List SubA}, (∀ s ∈ l, s.bal ≤ B) → sumM l ≤ B * l.length
  | [], _ => by simp [sumM]
  | s :: l, h => by
    have h1 := h s List.mem_cons_self
    have h2 := sumM_le (l := l) fun t ht => h t (List.mem_cons_of_mem _ ht)
    rw [sumM_cons]
    have h3 : B * ((s :: l).length : Int) = B * (l.length : Int) + B := by rw [List.length_cons, Int.natCast_add, Int.mul_add]; simp
    omega
theorem balOf_le {B : Int} {l : List SubA} (h : ∀ s ∈ l, s.bal ≤ B) (hB : 0 ≤ B) (x : Int) : balOf l x ≤ B := by
  unfold balOf
  cases hx : atS l x with
  | none => exact hB
  | some i =>
    have := (atS_some hx).1
    have h2 := h _ (List.getElem_mem this)
    rw [← subAt_get this] at h2
    exact h2
theorem Made.sum {a : Acc} {ids : List Int} {k : Nat} {B d : Int} (h : Made a ids k B d) (hB : 0 ≤ B) : sumM a.subs ≤ B * k * a.subs.length := by
  exact sumM_le (h.top hB)

end Go.Proofs.Ytoelidndnajedaa
