/- Mutual positions of a group of entities, as mathematics: what postings make of them, differences, what is eliminated; of no function of the program; no condition. -/
import Derived.Test.YtdbpbmejgdbppaaLgM
set_option linter.unusedSimpArgs false
set_option linter.unusedVariables false
namespace Go.Proofs.Ytdbpbmejgdbppaa
open Go.RowKit Go.Lib Go.Proofs Go.Maps

/-- A posting of an entity with a partner and a number, up to a day. -/
def hitQ (d e p r : Int) (x : Pst) : Bool := decide (x.day ≤ d) && (decide (x.ent = e) && decide (x.par = p) && decide (x.ref = r))
def posQ (d a e p r : Int) : List Pst → Int
  | [] => 0
  | x :: l => (if hitQ d e p r x then netP a x else 0) + posQ d a e p r l
theorem posQ_app (d a e p r : Int) : ∀ l m : List Pst, posQ d a e p r (l ++ m) = posQ d a e p r l + posQ d a e p r m
  | [], m => by simp [posQ]
  | x :: l, m => by simp only [List.cons_append, posQ, posQ_app d a e p r l m]; omega
theorem posQ_snoc (d a e p r : Int) (l : List Pst) (x : Pst) : posQ d a e p r (l ++ [x]) = posQ d a e p r l + (if hitQ d e p r x then netP a x else 0) := by
  rw [posQ_app]; simp [posQ]
theorem posQ_bound {d a e p r : Int} : ∀ {l : List Pst}, (∀ x ∈ l, PstOk x) → -1000000000000 * (l.length : Int) ≤ posQ d a e p r l ∧ posQ d a e p r l ≤ 1000000000000 * (l.length : Int)
  | [], _ => by simp [posQ]
  | x :: l, hp => by
    have h1 := posQ_bound (d := d) (a := a) (e := e) (p := p) (r := r) (l := l) fun q hq => hp q (List.mem_cons_of_mem _ hq)
    have h2 := netP_bound (a := a) (hp x List.mem_cons_self)
    simp only [posQ, List.length_cons]
    split <;> constructor <;> omega
theorem posQ_noref {d a e p r : Int} : ∀ {l : List Pst}, (∀ x ∈ l, x.ref ≠ r) → posQ d a e p r l = 0
  | [], _ => rfl
  | x :: l, h => by
    have h1 : hitQ d e p r x = false := by
      have := h x List.mem_cons_self
      unfold hitQ
      simp [this]
    rw [posQ, h1, posQ_noref (l := l) fun q hq => h q (List.mem_cons_of_mem _ hq)]
    rfl

/-- A kind of mutual positions. -/
structure Mut where
  kind : Int
  acct : Int
  oth : Int
  sgn : Int
def mut1 : Mut := ⟨1, 140, 240, 1⟩
def mut2 : Mut := ⟨2, 440, 540, -1⟩
/-- A mutual position: its kind, both entities, its number. -/
structure Qst where
  m : Mut
  a : Int
  b : Int
  r : Int
def rowQ (m : Mut) (a b : Int) (R : List Int) : List Qst := if a = b then [] else R.map fun r => ⟨m, a, b, r⟩
def pairQ (m : Mut) (a : Int) (g R : List Int) : List Qst := g.flatMap fun b => rowQ m a b R
def kindQ (m : Mut) (g R : List Int) : List Qst := g.flatMap fun a => pairQ m a g R
def eachQ (g R : List Int) : List Qst := kindQ mut1 g R ++ kindQ mut2 g R
def ownQ (d : Int) (l : List Pst) (q : Qst) : Int := q.m.sgn * posQ d q.m.acct q.a q.b q.r l
def othQ (d : Int) (l : List Pst) (q : Qst) : Int := -q.m.sgn * posQ d q.m.oth q.b q.a q.r l
structure Dif where
  kind : Int
  a : Int
  b : Int
  r : Int
  amt : Int
def difC (x : Dif) : List Value := [.int .i64 x.kind, .int .i64 x.a, .int .i64 x.b, .int .i64 x.r, .int .i64 x.amt]
theorem difF : Fields difC 5 := ⟨fun _ => rfl, fun _ u hu => by simp only [difC, List.mem_cons, List.mem_nil_iff, or_false] at hu; rcases hu with rfl | rfl | rfl | rfl | rfl <;> rfl, by decide⟩
def difO (d : Int) (l : List Pst) (q : Qst) : List Dif := if ownQ d l q = othQ d l q then [] else [⟨q.m.kind, q.a, q.b, q.r, ownQ d l q - othQ d l q⟩]
def difL (d : Int) (l : List Pst) (qs : List Qst) : List Dif := qs.flatMap (difO d l)
theorem difL_snoc (d : Int) (l : List Pst) (qs : List Qst) (q : Qst) : difL d l (qs ++ [q]) = difL d l qs ++ difO d l q := by simp [difL]
theorem difL_nil {d : Int} {l : List Pst} {qs : List Qst} (h : ∀ q ∈ qs, ownQ d l q = othQ d l q) : difL d l qs = [] := by
  unfold difL
  rw [List.flatMap_eq_nil_iff]
  intro q hq
  unfold difO
  rw [if_pos (h q hq)]
/-- What is eliminated of a position. -/
def minQ (d : Int) (l : List Pst) (q : Qst) : Int := if 0 < ownQ d l q ∧ 0 < othQ d l q then min (ownQ d l q) (othQ d l q) else 0
def elimQ (d : Int) (l : List Pst) : List Qst → Int
  | [] => 0
  | q :: qs => minQ d l q + elimQ d l qs
theorem elimQ_app (d : Int) (l : List Pst) : ∀ s t : List Qst, elimQ d l (s ++ t) = elimQ d l s + elimQ d l t
  | [], t => by simp [elimQ]
  | q :: s, t => by simp only [List.cons_append, elimQ, elimQ_app d l s t]; omega
/-- What eliminations change of an account. -/
def elAc (d : Int) (l : List Pst) (t : Int) : List Qst → Int
  | [] => 0
  | q :: qs => (if t = q.m.acct then -(q.m.sgn * minQ d l q) else 0) + (if t = q.m.oth then q.m.sgn * minQ d l q else 0) + elAc d l t qs
theorem elAc_app (d : Int) (l : List Pst) (u : Int) : ∀ s t : List Qst, elAc d l u (s ++ t) = elAc d l u s + elAc d l u t
  | [], t => by simp [elAc]
  | q :: s, t => by simp only [List.cons_append, elAc, elAc_app d l u s t]; omega
theorem minQ_zero {d : Int} {l : List Pst} {q : Qst} (h : ¬ (0 < ownQ d l q ∧ 0 < othQ d l q)) : minQ d l q = 0 := if_neg h
/-- The sums of a group. -/
def grpM (d : Int) (l : List Pst) (t : Int) : List Int → Int
  | [] => 0
  | e :: g => ofM e (fun x => decide (x ≤ d)) t l + grpM d l t g
theorem grpM_app (d : Int) (l : List Pst) (u : Int) : ∀ s t : List Int, grpM d l u (s ++ t) = grpM d l u s + grpM d l u t
  | [], t => by simp [grpM]
  | q :: s, t => by simp only [List.cons_append, grpM, grpM_app d l u s t]; omega

/-! ### References -/
def refsIn (l : List Pst) (r : Int) : Bool := l.any fun p => decide (p.ref = r)
def insR (x : Int) : List Int → List Int
  | [] => [x]
  | y :: l => if x < y then x :: y :: l else if x = y then y :: l else y :: insR x l
theorem insR_mem {x t : Int} : ∀ {l : List Int}, t ∈ insR x l ↔ t = x ∨ t ∈ l
  | [] => by simp [insR]
  | y :: l => by
    unfold insR
    split
    · simp
    · split
      · rename_i h1 h2; subst h2; simp
      · rw [List.mem_cons, insR_mem (l := l), List.mem_cons]
        constructor
        · rintro (h | h | h) <;> simp [h]
        · rintro (h | h | h) <;> simp [h]
theorem insR_asc {x : Int} : ∀ {l : List Int}, l.Pairwise (· < ·) → (insR x l).Pairwise (· < ·)
  | [], _ => by simp [insR]
  | y :: l, h => by
    rw [List.pairwise_cons] at h
    unfold insR
    split
    · rename_i h1
      rw [List.pairwise_cons]
      refine ⟨fun t ht => ?_, List.pairwise_cons.2 h⟩
      rcases List.mem_cons.1 ht with rfl | ht
      · exact h1
      · have := h.1 t ht; omega
    · split
      · exact List.pairwise_cons.2 h
      · rename_i h1 h2
        rw [List.pairwise_cons]
        refine ⟨fun t ht => ?_, insR_asc h.2⟩
        rcases insR_mem.1 ht with rfl | ht
        · omega
        · exact h.1 t ht
def refsM : List Pst → List Int
  | [] => []
  | p :: l => insR p.ref (refsM l)
theorem refsM_mem {r : Int} : ∀ {l : List Pst}, r ∈ refsM l ↔ ∃ p ∈ l, p.ref = r
  | [] => by simp [refsM]
  | p :: l => by
    rw [refsM, insR_mem, refsM_mem (l := l)]
    constructor
    · rintro (rfl | ⟨q, h1, h2⟩)
      · exact ⟨p, List.mem_cons_self, rfl⟩
      · exact ⟨q, List.mem_cons_of_mem _ h1, h2⟩
    · rintro ⟨q, h1, h2⟩
      rcases List.mem_cons.1 h1 with rfl | h1
      · exact Or.inl h2.symm
      · exact Or.inr ⟨q, h1, h2⟩
theorem refsM_asc : ∀ l : List Pst, (refsM l).Pairwise (· < ·)
  | [] => by simp [refsM]
  | p :: l => insR_asc (refsM_asc l)
/-- Two ascending lists of the same numbers are the same. -/
theorem asc_ext : ∀ {l m : List Int}, l.Pairwise (· < ·) → m.Pairwise (· < ·) → (∀ x, x ∈ l ↔ x ∈ m) → l = m
  | [], [], _, _, _ => rfl
  | [], y :: m, _, _, h => by have := (h y).2 List.mem_cons_self; simp at this
  | x :: l, [], _, _, h => by have := (h x).1 List.mem_cons_self; simp at this
  | x :: l, y :: m, hl, hm, h => by
    rw [List.pairwise_cons] at hl hm
    have hx := (h x).1 List.mem_cons_self
    have hy := (h y).2 List.mem_cons_self
    have e : x = y := by
      rcases List.mem_cons.1 hx with e | h1
      · exact e
      · rcases List.mem_cons.1 hy with e | h2
        · exact e.symm
        · have a := hm.1 x h1; have b := hl.1 y h2; omega
    subst e
    congr 1
    refine asc_ext hl.2 hm.2 fun t => ⟨fun ht => ?_, fun ht => ?_⟩
    · rcases List.mem_cons.1 ((h t).1 (List.mem_cons_of_mem _ ht)) with rfl | h1
      · have := hl.1 t ht; omega
      · exact h1
    · rcases List.mem_cons.1 ((h t).2 (List.mem_cons_of_mem _ ht)) with rfl | h1
      · have := hm.1 t ht; omega
      · exact h1
theorem insR_len (x : Int) : ∀ l : List Int, (insR x l).length ≤ l.length + 1
  | [] => by simp [insR]
  | y :: l => by
    unfold insR
    split
    · simp
    · split
      · simp
      · have := insR_len x l; simp; omega
theorem refsM_len : ∀ l : List Pst, (refsM l).length ≤ l.length
  | [] => by simp [refsM]
  | p :: l => by have h1 := insR_len p.ref (refsM l); have h2 := refsM_len l; rw [refsM, List.length_cons]; omega
theorem refsM_in {l : List Pst} (h : ∀ p ∈ l, PstOk p) : ∀ r ∈ refsM l, 0 ≤ r ∧ r ≤ 1000000 := fun r hr => by
  obtain ⟨p, hp, rfl⟩ := refsM_mem.1 hr
  exact (h p hp).ref

/-! ### A group -/
structure GrpOk (g : List Int) : Prop where
  ne : g ≠ []
  len : g.length ≤ 10
  ok : ∀ e ∈ g, 1 ≤ e ∧ e ≤ 10
  asc : g.Pairwise (· < ·)
theorem mem_rowQ {q : Qst} {m : Mut} {a b : Int} {R : List Int} (h : q ∈ rowQ m a b R) : q.m = m ∧ q.a = a ∧ q.b = b ∧ a ≠ b ∧ q.r ∈ R := by
  unfold rowQ at h
  split at h
  · simp at h
  · rename_i hne
    obtain ⟨r, hr, rfl⟩ := List.mem_map.1 h
    exact ⟨rfl, rfl, rfl, hne, hr⟩
theorem mem_kindQ {q : Qst} {m : Mut} {g R : List Int} (h : q ∈ kindQ m g R) : q.m = m ∧ q.a ∈ g ∧ q.b ∈ g ∧ q.a ≠ q.b ∧ q.r ∈ R := by
  unfold kindQ pairQ at h
  rw [List.mem_flatMap] at h
  obtain ⟨a, ha, h⟩ := h
  rw [List.mem_flatMap] at h
  obtain ⟨b, hb, h⟩ := h
  obtain ⟨h1, rfl, rfl, h4, h5⟩ := mem_rowQ h
  exact ⟨h1, ha, hb, h4, h5⟩
theorem mem_eachQ {q : Qst} {g R : List Int} (h : q ∈ eachQ g R) : (q.m = mut1 ∨ q.m = mut2) ∧ q.a ∈ g ∧ q.b ∈ g ∧ q.a ≠ q.b ∧ q.r ∈ R := by
  unfold eachQ at h
  rw [List.mem_append] at h
  rcases h with h | h
  · obtain ⟨h1, h2⟩ := mem_kindQ h; exact ⟨Or.inl h1, h2⟩
  · obtain ⟨h1, h2⟩ := mem_kindQ h; exact ⟨Or.inr h1, h2⟩
theorem ownQ_bound {d : Int} {l : List Pst} {q : Qst} (h : ∀ x ∈ l, PstOk x) (hq : q.m = mut1 ∨ q.m = mut2) : -1000000000000 * (l.length : Int) ≤ ownQ d l q ∧ ownQ d l q ≤ 1000000000000 * (l.length : Int) := by
  have h1 := posQ_bound (d := d) (a := q.m.acct) (e := q.a) (p := q.b) (r := q.r) h
  unfold ownQ
  rcases hq with e | e <;> rw [e] at h1 ⊢ <;> simp only [mut1, mut2] at h1 ⊢ <;> omega
theorem othQ_bound {d : Int} {l : List Pst} {q : Qst} (h : ∀ x ∈ l, PstOk x) (hq : q.m = mut1 ∨ q.m = mut2) : -1000000000000 * (l.length : Int) ≤ othQ d l q ∧ othQ d l q ≤ 1000000000000 * (l.length : Int) := by
  have h1 := posQ_bound (d := d) (a := q.m.oth) (e := q.b) (p := q.a) (r := q.r) h
  unfold othQ
  rcases hq with e | e <;> rw [e] at h1 ⊢ <;> simp only [mut1, mut2] at h1 ⊢ <;> omega
theorem minQ_bound {d : Int} {l : List Pst} {q : Qst} (h : ∀ x ∈ l, PstOk x) (hq : q.m = mut1 ∨ q.m = mut2) : 0 ≤ minQ d l q ∧ minQ d l q ≤ 1000000000000 * (l.length : Int) := by
  have h1 := ownQ_bound (d := d) h hq
  unfold minQ
  split <;> omega
theorem elimQ_bound {d : Int} {l : List Pst} (h : ∀ x ∈ l, PstOk x) : ∀ {qs : List Qst}, (∀ q ∈ qs, q.m = mut1 ∨ q.m = mut2) → 0 ≤ elimQ d l qs ∧ elimQ d l qs ≤ 1000000000000 * (l.length : Int) * (qs.length : Int)
  | [], _ => by simp [elimQ]
  | q :: qs, hq => by
    have h1 := elimQ_bound h (d := d) (qs := qs) fun x hx => hq x (List.mem_cons_of_mem _ hx)
    have h2 := minQ_bound (d := d) h (hq q List.mem_cons_self)
    have h3 : 1000000000000 * (l.length : Int) * (((q :: qs).length : Nat) : Int) = 1000000000000 * (l.length : Int) * (qs.length : Int) + 1000000000000 * (l.length : Int) := by rw [List.length_cons, Int.natCast_add, Int.mul_add]; simp
    rw [elimQ, h3]
    omega
theorem elAc_bound {d t : Int} {l : List Pst} (h : ∀ x ∈ l, PstOk x) : ∀ {qs : List Qst}, (∀ q ∈ qs, q.m = mut1 ∨ q.m = mut2) → -(1000000000000 * (l.length : Int) * (qs.length : Int)) ≤ elAc d l t qs ∧ elAc d l t qs ≤ 1000000000000 * (l.length : Int) * (qs.length : Int)
  | [], _ => by simp [elAc]
  | q :: qs, hq => by
    have h1 := elAc_bound h (d := d) (t := t) (qs := qs) fun x hx => hq x (List.mem_cons_of_mem _ hx)
    have h2 := minQ_bound (d := d) h (hq q List.mem_cons_self)
    have h3 : 1000000000000 * (l.length : Int) * (((q :: qs).length : Nat) : Int) = 1000000000000 * (l.length : Int) * (qs.length : Int) + 1000000000000 * (l.length : Int) := by rw [List.length_cons, Int.natCast_add, Int.mul_add]; simp
    rw [elAc, h3]
    rcases hq q List.mem_cons_self with e | e <;> rw [e] <;> simp only [mut1, mut2] <;> constructor <;> (repeat' split) <;> omega
theorem rowQ_len (m : Mut) (a b : Int) (R : List Int) : (rowQ m a b R).length ≤ R.length := by unfold rowQ; split <;> simp
theorem pairQ_len (m : Mut) (a : Int) (R : List Int) : ∀ g : List Int, (pairQ m a g R).length ≤ g.length * R.length
  | [] => by simp [pairQ]
  | b :: g => by
    have h1 := rowQ_len m a b R
    have h2 := pairQ_len m a R g
    unfold pairQ at h2 ⊢
    rw [List.flatMap_cons, List.length_append, List.length_cons, Nat.add_mul, Nat.one_mul]
    omega
theorem kindQ_len (m : Mut) (G R : List Int) : ∀ g : List Int, (g.flatMap fun a => pairQ m a G R).length ≤ g.length * (G.length * R.length)
  | [] => by simp
  | a :: g => by
    have h1 := pairQ_len m a R G
    have h2 := kindQ_len m G R g
    rw [List.flatMap_cons, List.length_append, List.length_cons, Nat.add_mul, Nat.one_mul]
    omega
theorem eachQ_len {g R : List Int} (hg : g.length ≤ 10) : (eachQ g R).length ≤ 200 * R.length := by
  have h1 := kindQ_len mut1 g R g
  have h2 := kindQ_len mut2 g R g
  have h3 : g.length * (g.length * R.length) ≤ 10 * (10 * R.length) := Nat.mul_le_mul hg (Nat.mul_le_mul hg (Nat.le_refl _))
  unfold eachQ kindQ
  rw [List.length_append]
  omega

end Go.Proofs.Ytdbpbmejgdbppaa
