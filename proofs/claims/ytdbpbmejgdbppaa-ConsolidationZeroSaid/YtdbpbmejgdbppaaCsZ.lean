/- What the statements on consolidation want of the mathematics: counts of differences, sums of balances, one posting more, a group of one more; of no function of the program; no condition. -/
import Derived.Test.YtdbpbmejgdbppaaCsA
import Derived.Test.YtdbpbmejgdbppaaLgBaM
set_option linter.unusedSimpArgs false
set_option linter.unusedVariables false
namespace Go.Proofs.Ytdbpbmejgdbppaa
open Go.RowKit Go.Lib Go.Proofs Go.Maps

/-! ### Differences of a position, counted -/
def cntD (a b r : Int) : List Dif → Int
  | [] => 0
  | x :: l => (if x.a = a ∧ x.b = b ∧ x.r = r then 1 else 0) + cntD a b r l
theorem cntD_app (a b r : Int) : ∀ l m : List Dif, cntD a b r (l ++ m) = cntD a b r l + cntD a b r m
  | [], m => by simp [cntD]
  | x :: l, m => by simp only [List.cons_append, cntD, cntD_app a b r l m]; omega
theorem cntD_difL (a b r d : Int) (l : List Pst) : ∀ qs : List Qst, cntD a b r (difL d l qs) = qsum (fun q => if q.a = a ∧ q.b = b ∧ q.r = r then (if ownQ d l q = othQ d l q then 0 else 1) else 0) qs
  | [] => rfl
  | q :: qs => by
    have ih := cntD_difL a b r d l qs
    unfold difL at ih ⊢
    rw [List.flatMap_cons, cntD_app, ih, qsum]
    congr 1
    unfold difO
    by_cases e : ownQ d l q = othQ d l q
    · simp [e, cntD]
    · simp [e, cntD]
/-- A position stands once in the list of all. -/
theorem pos_once {a b r : Int} {g R : List Int} (hg : g.Pairwise (· < ·)) (hR : R.Pairwise (· < ·)) (m : Mut) (F : Qst → Int) : qsum (fun q => if q.a = a ∧ q.b = b ∧ q.r = r then F q else 0) (kindQ m g R) = if a ∈ g ∧ b ∈ g ∧ a ≠ b ∧ r ∈ R then F ⟨m, a, b, r⟩ else 0 := by
  have h := hit_once (d := 0) (c := F ⟨m, a, b, r⟩) hg hR m ⟨0, 0, a, 0, 0, 0, b, r⟩
  simp only [Int.le_refl, true_and] at h
  rw [← h]
  refine qsum_congr fun q hq => ?_
  have hm := (mem_kindQ hq).1
  obtain ⟨qm, qa, qb, qr⟩ := q
  simp only at hm
  subst hm
  unfold hitQ
  simp only [Int.le_refl, decide_true, Bool.true_and, Bool.and_eq_true, decide_eq_true_eq]
  by_cases e : qa = a ∧ qb = b ∧ qr = r
  · obtain ⟨rfl, rfl, rfl⟩ := e
    simp
  · rw [if_neg e, if_neg]
    rintro ⟨⟨rfl, rfl⟩, rfl⟩
    exact e ⟨rfl, rfl, rfl⟩
def pM (d : Int) (l : List Pst) (a b r : Int) : Int := ownQ d l ⟨mut1, a, b, r⟩ - othQ d l ⟨mut1, a, b, r⟩
def qM (d : Int) (l : List Pst) (a b r : Int) : Int := ownQ d l ⟨mut2, a, b, r⟩ - othQ d l ⟨mut2, a, b, r⟩
theorem cnt_all {d a b r : Int} {l : List Pst} {g : List Int} (hg : g.Pairwise (· < ·)) (ha : a ∈ g) (hb : b ∈ g) (hab : a ≠ b) : cntD a b r (difL d l (eachQ g (refsM l))) = (if pM d l a b r = 0 then 0 else 1) + (if qM d l a b r = 0 then 0 else 1) := by
  rw [cntD_difL]
  unfold eachQ
  rw [qsum_app, pos_once hg (refsM_asc l) mut1, pos_once hg (refsM_asc l) mut2]
  have e1 : ∀ m, (ownQ d l ⟨m, a, b, r⟩ - othQ d l ⟨m, a, b, r⟩ = 0) ↔ ownQ d l ⟨m, a, b, r⟩ = othQ d l ⟨m, a, b, r⟩ := fun m => by omega
  unfold pM qM
  simp only [e1]
  by_cases hr : r ∈ refsM l
  · simp [ha, hb, hab, hr]
  · have hn : ∀ x ∈ l, x.ref ≠ r := fun x hx e => hr (refsM_mem.2 ⟨x, hx, e⟩)
    have z : ∀ m, ownQ d l ⟨m, a, b, r⟩ = 0 ∧ othQ d l ⟨m, a, b, r⟩ = 0 := fun m => by
      unfold ownQ othQ
      rw [posQ_noref hn, posQ_noref hn]
      simp
    simp [hr, (z mut1).1, (z mut1).2, (z mut2).1, (z mut2).2]
theorem mem_difL {d : Int} {l : List Pst} {g R : List Int} {x : Dif} (h : x ∈ difL d l (eachQ g R)) : x.amt ≠ 0 ∧ ((x.kind = 1 ∧ x.amt = pM d l x.a x.b x.r) ∨ (x.kind = 2 ∧ x.amt = qM d l x.a x.b x.r)) := by
  unfold difL at h
  rw [List.mem_flatMap] at h
  obtain ⟨q, hq, hx⟩ := h
  unfold difO at hx
  split at hx
  · simp at hx
  · rename_i hne
    rw [List.mem_singleton] at hx
    obtain ⟨qm, qa, qb, qr⟩ := q
    rcases (mem_eachQ hq).1 with e | e
    · simp only at e
      subst e hx
      exact ⟨by show ownQ d l ⟨mut1, qa, qb, qr⟩ - othQ d l ⟨mut1, qa, qb, qr⟩ ≠ 0; omega, Or.inl ⟨rfl, rfl⟩⟩
    · simp only at e
      subst e hx
      exact ⟨by show ownQ d l ⟨mut2, qa, qb, qr⟩ - othQ d l ⟨mut2, qa, qb, qr⟩ ≠ 0; omega, Or.inr ⟨rfl, rfl⟩⟩
theorem cntD_in (a b r : Int) : ∀ l : List Dif, 0 ≤ cntD a b r l ∧ cntD a b r l ≤ (l.length : Int)
  | [] => by simp [cntD]
  | x :: l => by have := cntD_in a b r l; simp only [cntD, List.length_cons]; split <;> omega
theorem difL_len (d : Int) (l : List Pst) : ∀ qs : List Qst, (difL d l qs).length ≤ qs.length
  | [] => by simp [difL]
  | q :: qs => by
    have ih := difL_len d l qs
    unfold difL at ih ⊢
    rw [List.flatMap_cons, List.length_append, List.length_cons]
    have : (difO d l q).length ≤ 1 := by unfold difO; split <;> simp
    omega

/-! ### One posting more -/
theorem difL_kind (d : Int) (l : List Pst) (m : Mut) (g R : List Int) : difL d l (kindQ m g R) = g.flatMap fun a => g.flatMap fun b => if a = b then [] else R.flatMap fun r => difO d l ⟨m, a, b, r⟩ := by
  unfold difL kindQ pairQ rowQ
  rw [List.flatMap_assoc]
  congr 1
  funext a
  rw [List.flatMap_assoc]
  congr 1
  funext b
  split
  · rfl
  · rw [List.flatMap_map]
theorem flat_one {α : Type} {c : α} {x : Int} : ∀ {l : List Int}, l.Pairwise (· < ·) → x ∈ l → (l.flatMap fun y => if y = x then [c] else []) = [c]
  | [], _, h => by simp at h
  | y :: l, hp, h => by
    rw [List.pairwise_cons] at hp
    rw [List.flatMap_cons]
    by_cases e : y = x
    · subst e
      rw [if_pos rfl]
      have : (l.flatMap fun z => if z = y then [c] else []) = [] := by
        rw [List.flatMap_eq_nil_iff]
        intro z hz
        rw [if_neg fun q => by have := hp.1 z hz; omega]
      rw [this]; rfl
    · rw [if_neg e]
      rcases List.mem_cons.1 h with rfl | h
      · exact absurd rfl e
      · exact flat_one hp.2 h
/-- Where one side is missing, just this position is named. -/
theorem AgrL.names {l : List Pst} (h : AgrL l) (n num : Int) (hn : n ≠ 0) : difL 60 (l ++ [⟨num, 60, 2, 140, 110, n, 3, 2⟩]) (eachQ [1, 2, 3] (refsM (l ++ [⟨num, 60, 2, 140, 110, n, 3, 2⟩]))) = [⟨1, 2, 3, 2, n⟩] := by
  obtain ⟨R, hR⟩ : ∃ R, R = refsM (l ++ [⟨num, 60, 2, 140, 110, n, 3, 2⟩]) := ⟨_, rfl⟩
  have h2 : (2 : Int) ∈ R := by rw [hR]; exact refsM_mem.2 ⟨⟨num, 60, 2, 140, 110, n, 3, 2⟩, by simp, rfl⟩
  have ha : R.Pairwise (· < ·) := by rw [hR]; exact refsM_asc _
  rw [← hR]
  clear hR
  have hp : ∀ t e p r, posQ 60 t e p r (l ++ [⟨num, 60, 2, 140, 110, n, 3, 2⟩]) = posQ 60 t e p r l + (if 2 = e ∧ 3 = p ∧ 2 = r then (if t = 140 then n else 0) - (if t = 110 then n else 0) else 0) := fun t e p r => by
    rw [posQ_snoc]
    unfold hitQ netP
    simp only [Int.le_refl, decide_true, Bool.true_and, Bool.and_eq_true, decide_eq_true_eq, and_assoc]
  have hd : ∀ a b r, difO 60 (l ++ [⟨num, 60, 2, 140, 110, n, 3, 2⟩]) ⟨mut1, a, b, r⟩ = if 2 = a ∧ 3 = b ∧ 2 = r then [⟨1, a, b, r, n⟩] else [] := fun a b r => by
    have hq := (h.own 60 (q := ⟨mut1, a, b, r⟩) (Or.inl rfl)).1
    have h1 : ownQ 60 (l ++ [⟨num, 60, 2, 140, 110, n, 3, 2⟩]) ⟨mut1, a, b, r⟩ = ownQ 60 l ⟨mut1, a, b, r⟩ + (if 2 = a ∧ 3 = b ∧ 2 = r then n else 0) := by
      unfold ownQ
      simp only [mut1]
      rw [hp]
      simp only [show ¬ (140 : Int) = 110 by decide, if_true, if_false, Int.sub_zero, Int.one_mul]
    have h3 : othQ 60 (l ++ [⟨num, 60, 2, 140, 110, n, 3, 2⟩]) ⟨mut1, a, b, r⟩ = othQ 60 l ⟨mut1, a, b, r⟩ := by
      unfold othQ
      simp only [mut1]
      rw [hp]
      simp only [show ¬ (240 : Int) = 140 by decide, show ¬ (240 : Int) = 110 by decide, if_false, ite_self, Int.sub_zero, Int.add_zero]
    unfold difO
    rw [h1, h3, ← hq]
    by_cases e : 2 = a ∧ 3 = b ∧ 2 = r
    · simp only [if_pos e]
      rw [if_neg (by omega)]
      congr 2
      omega
    · simp only [if_neg e]
      rw [if_pos (by omega)]
  have hz : ∀ a b r, difO 60 (l ++ [⟨num, 60, 2, 140, 110, n, 3, 2⟩]) ⟨mut2, a, b, r⟩ = [] := fun a b r => by
    have hq := (h.own 60 (q := ⟨mut2, a, b, r⟩) (Or.inr rfl)).1
    have h1 : ownQ 60 (l ++ [⟨num, 60, 2, 140, 110, n, 3, 2⟩]) ⟨mut2, a, b, r⟩ = ownQ 60 l ⟨mut2, a, b, r⟩ := by
      unfold ownQ
      simp only [mut2]
      rw [hp]
      simp only [show ¬ (440 : Int) = 140 by decide, show ¬ (440 : Int) = 110 by decide, if_false, ite_self, Int.sub_zero, Int.add_zero]
    have h3 : othQ 60 (l ++ [⟨num, 60, 2, 140, 110, n, 3, 2⟩]) ⟨mut2, a, b, r⟩ = othQ 60 l ⟨mut2, a, b, r⟩ := by
      unfold othQ
      simp only [mut2]
      rw [hp]
      simp only [show ¬ (540 : Int) = 140 by decide, show ¬ (540 : Int) = 110 by decide, if_false, ite_self, Int.sub_zero, Int.add_zero]
    unfold difO
    rw [h1, h3, if_pos hq]
  have hno : ∀ a b, ¬ (2 = a ∧ 3 = b) → (R.flatMap fun r => difO 60 (l ++ [⟨num, 60, 2, 140, 110, n, 3, 2⟩]) ⟨mut1, a, b, r⟩) = [] := fun a b e => by
    rw [List.flatMap_eq_nil_iff]
    intro r _
    rw [hd, if_neg fun q => e ⟨q.1, q.2.1⟩]
  have hyes : (R.flatMap fun r => difO 60 (l ++ [⟨num, 60, 2, 140, 110, n, 3, 2⟩]) ⟨mut1, 2, 3, r⟩) = [⟨1, 2, 3, 2, n⟩] := by
    have : (fun r => difO 60 (l ++ [⟨num, 60, 2, 140, 110, n, 3, 2⟩]) ⟨mut1, 2, 3, r⟩) = fun r => if r = 2 then [(⟨1, 2, 3, 2, n⟩ : Dif)] else [] := by
      funext r
      rw [hd]
      by_cases e : r = 2
      · subst e; simp
      · have e' : ¬ 2 = r := fun q => e q.symm
        simp [e, e']
    rw [this]
    exact flat_one ha h2
  have hz2 : ∀ a b, (R.flatMap fun r => difO 60 (l ++ [⟨num, 60, 2, 140, 110, n, 3, 2⟩]) ⟨mut2, a, b, r⟩) = [] := fun a b => by
    rw [List.flatMap_eq_nil_iff]
    intro r _
    exact hz a b r
  have hsplit : ∀ s t : List Qst, difL 60 (l ++ [⟨num, 60, 2, 140, 110, n, 3, 2⟩]) (s ++ t) = difL 60 (l ++ [⟨num, 60, 2, 140, 110, n, 3, 2⟩]) s ++ difL 60 (l ++ [⟨num, 60, 2, 140, 110, n, 3, 2⟩]) t := fun s t => by simp [difL]
  unfold eachQ
  rw [hsplit, difL_kind, difL_kind]
  simp only [List.flatMap_cons, List.flatMap_nil, hz2, ite_self, List.append_nil]
  rw [hyes, hno 1 2 (by omega), hno 1 3 (by omega), hno 2 1 (by omega), hno 3 1 (by omega), hno 3 2 (by omega)]
  simp

/-! ### Sums of balances -/
theorem grp_zero {d : Int} {l : List Pst} (h : ∀ p ∈ l, PstOk p) : ∀ g : List Int, sumZ (fun _ => true) (fun t => grpM d l t g) 500 = 0
  | [] => sumZ_zero _ _
  | e :: g => by
    simp only [grpM]
    rw [sumZ_add, sumZ_ofM e _ h, grp_zero h g]
    rfl
theorem el_zero {d : Int} {l : List Pst} : ∀ {qs : List Qst}, (∀ q ∈ qs, q.m = mut1 ∨ q.m = mut2) → sumZ (fun _ => true) (fun t => elAc d l t qs) 500 = 0
  | [], _ => sumZ_zero _ _
  | q :: qs, h => by
    have ih := el_zero (d := d) (l := l) (qs := qs) fun x hx => h x (List.mem_cons_of_mem _ hx)
    simp only [elAc]
    rw [sumZ_add, ih, sumZ_add]
    have r : 100 ≤ q.m.acct ∧ q.m.acct < 600 ∧ 100 ≤ q.m.oth ∧ q.m.oth < 600 := by
      rcases h q List.mem_cons_self with e | e <;> rw [e] <;> decide
    rw [sumZ_single r.1 (by omega), sumZ_single r.2.2.1 (by omega)]
    simp only [if_true]
    omega
theorem whole_zero {d : Int} {l : List Pst} (h : ∀ p ∈ l, PstOk p) (g : List Int) : totB (balsM (wholeM d l g)) = 0 := by
  rw [totB_bals]
  unfold wholeM
  rw [sumZ_add, grp_zero h, el_zero fun q hq => (mem_eachQ hq).1]
  rfl
theorem each_one (e : Int) (R : List Int) : eachQ [e] R = [] := by
  simp [eachQ, kindQ, pairQ, rowQ]
/-- What a row of balances has of an account. -/
def valB (t : Int) : List Blc → Int
  | [] => 0
  | b :: l => (if b.acct = t then b.amt else 0) + valB t l
theorem valB_app (t : Int) : ∀ l m : List Blc, valB t (l ++ m) = valB t l + valB t m
  | [], m => by simp [valB]
  | b :: l, m => by simp only [List.cons_append, valB, valB_app t l m]; omega
theorem valB_range (g : Int → Int) (t : Int) : ∀ n : Nat, valB t (balsOf g ((List.range n).map fun i : Nat => (100 : Int) + (i : Int))) = if 100 ≤ t ∧ t < 100 + (n : Int) then g t else 0
  | 0 => by rw [if_neg (by omega)]; rfl
  | n + 1 => by
    rw [acctsM_take_succ, balsOf_snoc]
    have ih := valB_range g t n
    by_cases h : g (100 + (n : Int)) = 0
    · rw [if_pos h, ih]
      by_cases e : t = 100 + (n : Int)
      · subst e; rw [if_neg (by omega), h]; split <;> rfl
      · by_cases c : 100 ≤ t ∧ t < 100 + (n : Int)
        · rw [if_pos c, if_pos (by omega)]
        · rw [if_neg c, if_neg (by omega)]
    · rw [if_neg h, valB_app, ih]
      simp only [valB]
      by_cases e : t = 100 + (n : Int)
      · subst e; rw [if_neg (by omega), if_pos rfl, if_pos (by omega)]; omega
      · rw [if_neg (show ¬ (100 + (n : Int) = t) from fun q => e q.symm)]
        by_cases c : 100 ≤ t ∧ t < 100 + (n : Int)
        · rw [if_pos c, if_pos (by omega)]; omega
        · rw [if_neg c, if_neg (by omega)]; rfl
theorem valB_bals (g : Int → Int) {t : Int} (h : 100 ≤ t ∧ t ≤ 599) : valB t (balsM g) = g t := by
  have := valB_range g t 500
  rw [if_pos (by omega)] at this
  exact this

/-! ### A group with one more, who deals with nobody -/
theorem AgrL.out {l : List Pst} (h : AgrL l) : ∀ d e p r, ¬ (1 ≤ e ∧ e ≤ 3) ∨ ¬ (1 ≤ p ∧ p ≤ 3) → posQ d 140 e p r l = 0 ∧ posQ d 440 e p r l = 0 := by
  induction h with
  | nil => intro d e p r _; exact ⟨rfl, rfl⟩
  | pair h n day a b amt ref ha hb hab h0 ih =>
    intro d e p r hn
    obtain ⟨i1, i2⟩ := ih d e p r hn
    rw [posQ_pair, posQ_pair, i1, i2]
    have c1 : ¬ (day ≤ d ∧ a = e ∧ b = p ∧ ref = r) := fun q => by obtain ⟨_, rfl, rfl, _⟩ := q; exact hn.elim (fun q => q ha) (fun q => q hb)
    have c2 : ¬ (day ≤ d ∧ b = e ∧ a = p ∧ ref = r) := fun q => by obtain ⟨_, rfl, rfl, _⟩ := q; exact hn.elim (fun q => q hb) (fun q => q ha)
    rw [if_neg c1, if_neg c2, if_neg c1, if_neg c2]
    exact ⟨rfl, rfl⟩
  | plain h p hp hd hc ih =>
    intro d e q r hn
    rw [posQ_plain not140 hd hc, posQ_plain not440 hd hc]
    exact ih d e q r hn
theorem AgrL.min_out {l : List Pst} (h : AgrL l) (d : Int) {q : Qst} (hq : q.m = mut1 ∨ q.m = mut2) (ho : q.a = 5 ∨ q.b = 5) : minQ d l q = 0 := by
  rw [h.min d hq]
  obtain ⟨h1, h2⟩ := h.out d q.a q.b q.r (by omega)
  unfold ownQ
  rcases hq with e | e <;> rw [e] <;> simp only [mut1, mut2] <;> omega
theorem qsum_kind (f : Qst → Int) (m : Mut) (g R : List Int) : qsum f (kindQ m g R) = sumI (fun a => sumI (fun b => qsum f (rowQ m a b R)) g) g := by
  unfold kindQ pairQ
  rw [qsum_flat]
  exact sumI_congr fun a _ => qsum_flat _ _ _
theorem kind_more {f : Qst → Int} {m : Mut} {R : List Int} (h : ∀ q, q.m = m → (q.a = 5 ∨ q.b = 5) → f q = 0) : qsum f (kindQ m [1, 2, 3, 5] R) = qsum f (kindQ m [1, 2, 3] R) := by
  have z1 : ∀ b, qsum f (rowQ m 5 b R) = 0 := fun b => qsum_zero fun q hq => h q (mem_rowQ hq).1 (Or.inl (mem_rowQ hq).2.1)
  have z2 : ∀ a, qsum f (rowQ m a 5 R) = 0 := fun a => qsum_zero fun q hq => h q (mem_rowQ hq).1 (Or.inr (mem_rowQ hq).2.2.1)
  rw [qsum_kind, qsum_kind]
  simp only [sumI, z1, z2]
  omega
theorem AgrL.more {l : List Pst} (h : AgrL l) (d : Int) (f : Qst → Int) (hf : ∀ q, minQ d l q = 0 → f q = 0) : qsum f (eachQ [1, 2, 3, 5] (refsM l)) = qsum f (eachQ [1, 2, 3] (refsM l)) := by
  unfold eachQ
  rw [qsum_app, qsum_app, kind_more fun q hm ho => hf q (h.min_out d (Or.inl hm) ho), kind_more fun q hm ho => hf q (h.min_out d (Or.inr hm) ho)]
theorem AgrL.elim_more {l : List Pst} (h : AgrL l) (d : Int) : elimQ d l (eachQ [1, 2, 3, 5] (refsM l)) = elimQ d l (eachQ [1, 2, 3] (refsM l)) := by
  rw [elimQ_sum, elimQ_sum]
  exact h.more d _ fun q hq => hq
theorem AgrL.whole_more {l : List Pst} (h : AgrL l) (d t : Int) : wholeM d l [1, 2, 3, 5] t = wholeM d l [1, 2, 3] t + wholeM d l [5] t := by
  unfold wholeM
  rw [each_one, elAc_sum, elAc_sum, h.more d _ fun q hq => by rw [hq]; simp]
  simp only [grpM, elAc]
  omega

end Go.Proofs.Ytdbpbmejgdbppaa
