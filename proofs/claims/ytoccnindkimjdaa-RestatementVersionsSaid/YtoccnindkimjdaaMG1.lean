/- Texts of one claim, merged: RowC, RowL, LgM. -/
import Derived.Test.YtoccnindkimjdaaMBase
/- Rows of elements of one cell or more that lie in memory; of no function of the program; no condition. -/
set_option linter.unusedSimpArgs false
set_option linter.unusedVariables false
namespace Go.Proofs.Ytoccnindkimjdaa
open Go.RowKit Go.Lib Go.Proofs

/-- v is a slice of n elements of some cells each, and these hold xs. -/
def RowG (w : World) (v : Value) (n size : Nat) (xs : List Value) : Prop :=
  xs.length = n * size ∧ ∃ ao cap, v = .slice ao n cap ∧ n ≤ cap ∧ (n = 0 ∨ ∃ b o, ao = some ⟨b, o, none⟩ ∧ b < w.heap.size ∧ ∀ j, j < n * size → w.cell? ⟨b, o + j, none⟩ = xs[j]?)

theorem RowG.below {w w' : World} {v : Value} {n size : Nat} {xs : List Value} (h : RowG w v n size xs) (hb : Below w.heap.size w w') : RowG w' v n size xs := by
  obtain ⟨h0, ao, cap, h1, h2, h3⟩ := h
  refine ⟨h0, ao, cap, h1, h2, ?_⟩
  rcases h3 with h3 | ⟨b, o, h4, h5, h6⟩
  · exact Or.inl h3
  · exact Or.inr ⟨b, o, h4, Nat.lt_of_lt_of_le h5 hb.size, fun j hj => by rw [hb.cell (by exact h5)]; exact h6 j hj⟩

theorem RowG.owns {w : World} {base size n : Nat} {e : TypeId} {v : Value} {xs : List Value} (h : w.ownsRow base e size v n xs) : RowG w v n size xs := by
  refine ⟨h.1, ?_⟩
  rcases h.2 with ⟨hv, h0⟩ | ⟨g, cap, cur, hv, hg, hh, hnc, _⟩
  · exact ⟨none, 0, by rw [hv, h0], by omega, Or.inl h0⟩
  · refine ⟨some ⟨g, 0, none⟩, cap, hv, hnc, Or.inr ⟨g, 0, rfl, ?_, fun j hj => ?_⟩⟩
    · by_cases hlt : g < w.heap.size
      · exact hlt
      · rw [Array.getElem?_eq_none (by omega)] at hh; cases hh
    · subst hv
      rw [Nat.zero_add, h.cellAt j hj]

theorem grownBy_below {A B : World} {row : Option Nat} (h : Below A.heap.size A B) : A.grownBy B row := ⟨h.os, h.tape, h.output, h.size, fun k hk _ => h.block k hk⟩
theorem grownBy_trans {a b c : World} {row : Option Nat} (h : a.grownBy b row) (k : b.grownBy c row) : a.grownBy c row :=
  ⟨k.os.trans h.os, k.tape.trans h.tape, k.output.trans h.output, Nat.le_trans h.size k.size, fun i hi hne => (k.block i (Nat.lt_of_lt_of_le hi h.size) hne).trans (h.block i hi hne)⟩
theorem grownBy_refl (a : World) (row : Option Nat) : a.grownBy a row := ⟨rfl, rfl, rfl, Nat.le_refl _, fun _ _ _ => rfl⟩
theorem below_grownBy {A B : World} (h : A.grownBy B none) : Below A.heap.size A B := ⟨h.os, h.tape, h.output, h.size, fun k hk => h.block k hk (by simp)⟩

end Go.Proofs.Ytoccnindkimjdaa

/- Slices of structs in memory, for any struct of m one-cell fields: what stands at each place, own rows that grow by one; of no function of the program; no condition. -/
namespace Go.Proofs.Ytoccnindkimjdaa
open Go.RowKit Go.Lib Go.Proofs

/-- A struct's fields as cells: m of them, each of one cell. -/
structure Fields {α : Type} (f : α → List Value) (m : Nat) : Prop where
  len : ∀ x, (f x).length = m
  one : ∀ x, ∀ u ∈ f x, u.oneCell' = true
  pos : 0 < m

def cellsL {α : Type} (f : α → List Value) : List α → List Value
  | [] => []
  | x :: l => f x ++ cellsL f l

theorem cellsL_len {α : Type} {f : α → List Value} {m : Nat} (hf : Fields f m) : ∀ l : List α, (cellsL f l).length = l.length * m
  | [] => by simp [cellsL]
  | x :: l => by simp only [cellsL, List.length_append, hf.len, cellsL_len hf l, List.length_cons, Nat.add_mul]; omega
theorem cellsL_app {α : Type} (f : α → List Value) : ∀ l k : List α, cellsL f (l ++ k) = cellsL f l ++ cellsL f k
  | [], _ => rfl
  | x :: l, k => by simp only [List.cons_append, cellsL, cellsL_app f l k, List.append_assoc]
theorem cellsL_snoc {α : Type} (f : α → List Value) (l : List α) (x : α) : cellsL f l ++ f x = cellsL f (l ++ [x]) := by
  rw [cellsL_app]; simp [cellsL]
theorem cellsL_one {α : Type} {f : α → List Value} {m : Nat} (hf : Fields f m) : ∀ l : List α, ∀ u ∈ cellsL f l, u.oneCell' = true
  | [], u, h => by simp [cellsL] at h
  | x :: l, u, h => by
    simp only [cellsL, List.mem_append] at h
    rcases h with h | h
    · exact hf.one x u h
    · exact cellsL_one hf l u h
theorem cellsL_get {α : Type} {f : α → List Value} {m : Nat} (hf : Fields f m) : ∀ (l : List α) (i j : Nat) (h : i < l.length), j < m → (cellsL f l)[i * m + j]? = (f l[i])[j]?
  | [], _, _, h, _ => by simp at h
  | x :: l, 0, j, _, hj => by
    rw [Nat.zero_mul, Nat.zero_add]
    exact List.getElem?_append_left (by rw [hf.len]; exact hj)
  | x :: l, i + 1, j, h, hj => by
    have ih := cellsL_get hf l i j (by simpa using h) hj
    rw [show (i + 1) * m + j = (f x).length + (i * m + j) by rw [hf.len, Nat.add_mul]; omega]
    show (f x ++ cellsL f l)[(f x).length + (i * m + j)]? = _
    rw [List.getElem?_append_right (by omega), Nat.add_sub_cancel_left, ih]
    rfl

/-- A slice of structs, wherever it lies. -/
def ListAt {α : Type} (f : α → List Value) (m : Nat) (w : World) (v : Value) (l : List α) : Prop := RowG w v l.length m (cellsL f l)
theorem ListAt.below {α : Type} {f : α → List Value} {m : Nat} {w w' : World} {v : Value} {l : List α} (h : ListAt f m w v l) (hb : Below w.heap.size w w') : ListAt f m w' v l := RowG.below h hb
theorem ListAt.owns {α : Type} {f : α → List Value} {m : Nat} {w : World} {base : Nat} {e : TypeId} {v : Value} {l : List α} (h : w.ownsRow base e m v l.length (cellsL f l)) : ListAt f m w v l := RowG.owns h

/-- A slice of structs, laid open: its parts, and what stands at each place. -/
theorem ListAt.shape {α : Type} {f : α → List Value} {m : Nat} (hf : Fields f m) {w : World} {v : Value} {l : List α} (h : ListAt f m w v l) :
    ∃ ao cap, v = .slice ao l.length cap ∧ l.length ≤ cap ∧ (0 < l.length → ∃ b o, ao = some ⟨b, o, none⟩ ∧ b < w.heap.size ∧ ∀ i (hi : i < l.length), ∀ j, j < m → w.cell? ⟨b, o + i * m + j, none⟩ = (f l[i])[j]?) := by
  obtain ⟨_, ao, cap, rfl, hcap, hc⟩ := h
  refine ⟨ao, cap, rfl, hcap, fun hpos => ?_⟩
  rcases hc with hc | ⟨b, o, rfl, hb, hc⟩
  · omega
  · refine ⟨b, o, rfl, hb, fun i hi j hj => ?_⟩
    have hlt : i * m + j < l.length * m := by
      have : (i + 1) * m ≤ l.length * m := Nat.mul_le_mul_right m hi
      rw [Nat.add_mul] at this
      omega
    rw [Nat.add_assoc, hc _ hlt]
    exact cellsL_get hf l i j hi hj

theorem nil_listAt {α : Type} (f : α → List Value) (m : Nat) (w : World) (ao : Option Addr) (cap : Nat) : ListAt f m w (.slice ao 0 cap) [] := ⟨by simp [cellsL], ao, cap, rfl, Nat.zero_le _, Or.inl rfl⟩

/-- What stands in a new block: what an append of one struct asks. -/
theorem new_cells (w : World) (cs : Array Value) (T : TypeId) (b : Nat) (hb : b = w.heap.size) : ∀ j u, cs.toList[j]? = some u → (w.alloc (.cells cs T)).cell? ((⟨b, 0, none⟩ : Addr).add j) = some u := by
  subst hb
  intro j u hj
  have h1 : (w.alloc (.cells cs T)).heap[w.heap.size]? = some (.cells cs T) := heap_alloc_new w _
  have he : (⟨w.heap.size, 0, none⟩ : Addr).add j = ⟨w.heap.size, j, none⟩ := by unfold Addr.add; split <;> simp_all
  rw [he, cell_of_row _ _ j cs T (0, 0) h1, ← hj, Array.getElem?_toList]

theorem getD_map_len {α : Type} (l : List α) (x : α) : (l ++ [x]).length = l.length + 1 := by simp

end Go.Proofs.Ytoccnindkimjdaa

/- Books, as mathematics: right ledgers, what postings make of an account; of no function of the program; no condition. -/
namespace Go.Proofs.Ytoccnindkimjdaa
open Go.RowKit Go.Lib Go.Proofs

structure Pst where
  num : Int
  day : Int
  ent : Int
  deb : Int
  crd : Int
  amt : Int
  par : Int
  ref : Int
def Pst.zero : Pst := ⟨0, 0, 0, 0, 0, 0, 0, 0⟩
def pstC (p : Pst) : List Value := [.int .i64 p.num, .int .i64 p.day, .int .i64 p.ent, .int .i64 p.deb, .int .i64 p.crd, .int .i64 p.amt, .int .i64 p.par, .int .i64 p.ref]
theorem pstF : Fields pstC 8 := ⟨fun _ => rfl, fun _ u hu => by simp only [pstC, List.mem_cons, List.mem_nil_iff, or_false] at hu; rcases hu with rfl | rfl | rfl | rfl | rfl | rfl | rfl | rfl <;> rfl, by decide⟩
def pstAt (l : List Pst) (i : Nat) : Pst := l.getD i Pst.zero
theorem pstAt_get {l : List Pst} {i : Nat} (h : i < l.length) : pstAt l i = l[i] := by simp [pstAt, List.getD, List.getElem?_eq_getElem h]
abbrev PstsAt (w : World) (v : Value) (l : List Pst) : Prop := ListAt pstC 8 w v l
theorem PstsAt.open {w : World} {v : Value} {l : List Pst} (h : PstsAt w v l) : ∃ ao cap, v = .slice ao l.length cap ∧ l.length ≤ cap ∧ (0 < l.length → ∃ b o, ao = some ⟨b, o, none⟩ ∧ b < w.heap.size ∧ ∀ i, i < l.length → ∀ j, j < 8 → w.cell? ⟨b, o + i * 8 + j, none⟩ = (pstC (pstAt l i))[j]?) := by
  obtain ⟨ao, cap, h1, h2, h3⟩ := ListAt.shape pstF h
  refine ⟨ao, cap, h1, h2, fun hp => ?_⟩
  obtain ⟨b, o, h4, h5, h6⟩ := h3 hp
  exact ⟨b, o, h4, h5, fun i hi j hj => by rw [pstAt_get hi]; exact h6 i hi j hj⟩

def classM (a : Int) : Int := if 100 ≤ a ∧ a ≤ 599 then a / 100 else 0
/-- A valid posting. -/
structure PstOk (p : Pst) : Prop where
  num : 1 ≤ p.num ∧ p.num ≤ 1000000
  day : 0 ≤ p.day ∧ p.day ≤ 36000
  ent : 1 ≤ p.ent ∧ p.ent ≤ 10
  deb : 100 ≤ p.deb ∧ p.deb ≤ 599
  crd : 100 ≤ p.crd ∧ p.crd ≤ 599
  ne : p.deb ≠ p.crd
  amt : 1 ≤ p.amt ∧ p.amt ≤ 1000000000000
  par : 0 ≤ p.par ∧ p.par ≤ 10
  pne : p.par ≠ p.ent
  ref : 0 ≤ p.ref ∧ p.ref ≤ 1000000
def lastP (l : List Pst) : Pst := l.getLast?.getD Pst.zero
theorem lastP_snoc (l : List Pst) (p : Pst) : lastP (l ++ [p]) = p := by simp [lastP]
theorem lastP_at {l : List Pst} {m : Nat} (h : l.length = m + 1) : lastP l = pstAt l m := by
  unfold lastP pstAt
  rw [List.getLast?_eq_getElem?, h, Nat.add_sub_cancel, List.getD_eq_getElem?_getD]
/-- A right ledger. -/
structure LdgOk (l : List Pst) : Prop where
  len : l.length ≤ 400
  ok : ∀ i, i < l.length → PstOk (pstAt l i)
  num : ∀ i, i < l.length → (pstAt l i).num = (i : Int) + 1
  asc : ∀ i, i + 1 < l.length → (pstAt l i).day ≤ (pstAt l (i + 1)).day
theorem ldgOk_nil : LdgOk [] := ⟨by simp, fun i h => by simp at h, fun i h => by simp at h, fun i h => by simp at h⟩
theorem pstAt_app_lt {l : List Pst} {p : Pst} {i : Nat} (h : i < l.length) : pstAt (l ++ [p]) i = pstAt l i := by
  rw [pstAt_get (by simp; omega), pstAt_get h, List.getElem_append_left h]
theorem pstAt_app_eq {l : List Pst} {p : Pst} : pstAt (l ++ [p]) l.length = p := by
  rw [pstAt_get (by simp)]; simp
theorem LdgOk.last {l : List Pst} (h : LdgOk l) : (lastP l).num = l.length ∧ 0 ≤ (lastP l).day := by
  cases hl : l.length with
  | zero =>
    obtain rfl := List.length_eq_zero_iff.1 hl
    exact ⟨rfl, Int.le_refl _⟩
  | succ m =>
    rw [lastP_at hl, h.num m (by omega)]
    exact ⟨by simp, (h.ok m (by omega)).day.1⟩
theorem LdgOk.snoc {l : List Pst} {p : Pst} (h : LdgOk l) (hl : l.length < 400) (hp : PstOk p) (hn : p.num = (l.length : Int) + 1) (hd : (lastP l).day ≤ p.day) : LdgOk (l ++ [p]) := by
  refine ⟨by simp; omega, fun i hi => ?_, fun i hi => ?_, fun i hi => ?_⟩
  · simp at hi
    by_cases hi2 : i < l.length
    · rw [pstAt_app_lt hi2]; exact h.ok i hi2
    · obtain rfl : i = l.length := by omega
      rw [pstAt_app_eq]; exact hp
  · simp at hi
    by_cases hi2 : i < l.length
    · rw [pstAt_app_lt hi2]; exact h.num i hi2
    · obtain rfl : i = l.length := by omega
      rw [pstAt_app_eq]; exact hn
  · simp at hi
    by_cases hi2 : i + 1 < l.length
    · rw [pstAt_app_lt hi2, pstAt_app_lt (by omega)]; exact h.asc i hi2
    · obtain hlm : l.length = i + 1 := by omega
      rw [pstAt_app_lt (by omega), ← hlm, pstAt_app_eq, ← lastP_at hlm]
      exact hd

/-- Whether a posting counts for an entity (0: all). -/
def hitE (e : Int) (p : Pst) : Bool := decide (e = 0) || decide (p.ent = e)
/-- What one posting makes of an account. -/
def netP (a : Int) (p : Pst) : Int := (if a = p.deb then p.amt else 0) - (if a = p.crd then p.amt else 0)
/-- What postings make of an account of an entity, those on days that are wanted. -/
def ofM (e : Int) (f : Int → Bool) (a : Int) : List Pst → Int
  | [] => 0
  | p :: l => (if hitE e p && f p.day then netP a p else 0) + ofM e f a l
theorem ofM_snoc (e : Int) (f : Int → Bool) (a : Int) (p : Pst) : ∀ l : List Pst, ofM e f a (l ++ [p]) = ofM e f a l + (if hitE e p && f p.day then netP a p else 0)
  | [] => by simp [ofM]
  | q :: l => by simp only [List.cons_append, ofM, ofM_snoc e f a p l]; omega
/-- The accounts that were touched. -/
def touchM (e : Int) (f : Int → Bool) (a : Int) : List Pst → Bool
  | [] => false
  | p :: l => (hitE e p && f p.day && (decide (a = p.deb) || decide (a = p.crd))) || touchM e f a l
theorem touchM_snoc (e : Int) (f : Int → Bool) (a : Int) (p : Pst) : ∀ l : List Pst, touchM e f a (l ++ [p]) = (touchM e f a l || (hitE e p && f p.day && (decide (a = p.deb) || decide (a = p.crd))))
  | [] => by simp [touchM]
  | q :: l => by simp only [List.cons_append, touchM, touchM_snoc e f a p l, Bool.or_assoc]
theorem touchM_range {e : Int} {f : Int → Bool} {a : Int} : ∀ {l : List Pst}, (∀ p ∈ l, PstOk p) → touchM e f a l = true → 100 ≤ a ∧ a ≤ 599
  | [], _, h => by cases h
  | p :: l, hp, h => by
    simp only [touchM, Bool.or_eq_true, Bool.and_eq_true, decide_eq_true_eq] at h
    have h0 := hp p List.mem_cons_self
    rcases h with ⟨_, h | h⟩ | h
    · rw [h]; exact h0.deb
    · rw [h]; exact h0.crd
    · exact touchM_range (fun q hq => hp q (List.mem_cons_of_mem _ hq)) h
theorem ofM_untouched {e : Int} {f : Int → Bool} {a : Int} : ∀ {l : List Pst}, touchM e f a l = false → ofM e f a l = 0
  | [], _ => rfl
  | p :: l, h => by
    simp only [touchM, Bool.or_eq_false_iff] at h
    rw [ofM, ofM_untouched h.2]
    by_cases hh : (hitE e p && f p.day) = true
    · rw [if_pos hh]
      have h1 := h.1
      rw [hh] at h1
      simp only [Bool.true_and, Bool.or_eq_false_iff, decide_eq_false_iff_not] at h1
      unfold netP
      rw [if_neg h1.1, if_neg h1.2]
      omega
    · rw [if_neg hh]; rfl
theorem netP_bound {a : Int} {p : Pst} (h : PstOk p) : -1000000000000 ≤ netP a p ∧ netP a p ≤ 1000000000000 := by
  have := h.amt
  unfold netP
  constructor <;> (repeat' split) <;> omega
theorem ofM_bound {e : Int} {f : Int → Bool} {a : Int} : ∀ {l : List Pst}, (∀ p ∈ l, PstOk p) → -1000000000000 * (l.length : Int) ≤ ofM e f a l ∧ ofM e f a l ≤ 1000000000000 * (l.length : Int)
  | [], _ => by simp [ofM]
  | p :: l, hp => by
    have h1 := ofM_bound (e := e) (f := f) (a := a) (l := l) fun q hq => hp q (List.mem_cons_of_mem _ hq)
    have h2 := netP_bound (a := a) (hp p List.mem_cons_self)
    simp only [ofM, List.length_cons]
    split <;> constructor <;> omega
theorem LdgOk.mem {l : List Pst} (h : LdgOk l) : ∀ p ∈ l, PstOk p := fun p hp => by
  obtain ⟨i, hi, rfl⟩ := List.getElem_of_mem hp
  rw [← pstAt_get hi]
  exact h.ok i hi

/-! ### Sums over accounts -/
def sumZ (q : Int → Bool) (g : Int → Int) : Nat → Int
  | 0 => 0
  | n + 1 => sumZ q g n + (if q (100 + (n : Int)) then g (100 + (n : Int)) else 0)
theorem sumZ_none {q : Int → Bool} {g : Int → Int} : ∀ {n : Nat}, (∀ i : Nat, i < n → q (100 + (i : Int)) = false) → sumZ q g n = 0
  | 0, _ => rfl
  | n + 1, h => by rw [sumZ, sumZ_none (n := n) fun i hi => h i (by omega), h n (by omega)]; rfl
theorem sumZ_congr {q r : Int → Bool} {g h : Int → Int} : ∀ {n : Nat}, (∀ i : Nat, i < n → (if q (100 + (i : Int)) then g (100 + (i : Int)) else 0) = (if r (100 + (i : Int)) then h (100 + (i : Int)) else 0)) → sumZ q g n = sumZ r h n
  | 0, _ => rfl
  | n + 1, hh => by rw [sumZ, sumZ, sumZ_congr (n := n) fun i hi => hh i (by omega), hh n (by omega)]
theorem sumZ_add (q : Int → Bool) (g h : Int → Int) : ∀ n : Nat, sumZ q (fun x => g x + h x) n = sumZ q g n + sumZ q h n
  | 0 => rfl
  | n + 1 => by
    rw [sumZ, sumZ, sumZ, sumZ_add q g h n]
    cases q (100 + (n : Int)) <;> simp <;> omega
theorem sumZ_strike {q : Int → Bool} {g : Int → Int} {x : Int} : ∀ {n : Nat}, 100 ≤ x → x < 100 + (n : Int) → sumZ (fun y => q y && !decide (y = x)) g n = sumZ q g n - (if q x then g x else 0)
  | 0, h1, h2 => by omega
  | n + 1, h1, h2 => by
    rw [sumZ, sumZ]
    by_cases hx : x = 100 + (n : Int)
    · subst hx
      have : sumZ (fun y => q y && !decide (y = 100 + (n : Int))) g n = sumZ q g n := sumZ_congr fun i hi => by
        rw [decide_eq_false (show ¬ (100 + (i : Int) = 100 + (n : Int)) by omega)]
        simp
      rw [this]
      simp
    · rw [sumZ_strike (n := n) h1 (by omega), decide_eq_false (show ¬ (100 + (n : Int) = x) from fun e => hx e.symm)]
      simp only [Bool.not_false, Bool.and_true]
      omega
theorem sumZ_bound {q : Int → Bool} {g : Int → Int} {B : Int} (hB : ∀ x, -B ≤ g x ∧ g x ≤ B) (h0 : 0 ≤ B) : ∀ n : Nat, -(B * (n : Int)) ≤ sumZ q g n ∧ sumZ q g n ≤ B * (n : Int)
  | 0 => by simp [sumZ]
  | n + 1 => by
    have h1 := sumZ_bound (q := q) hB h0 n
    have h2 := hB (100 + (n : Int))
    rw [sumZ]
    have h3 : B * ((n + 1 : Nat) : Int) = B * (n : Int) + B := by rw [Int.natCast_add, Int.mul_add]; simp
    rw [h3]
    split <;> omega
theorem sumZ_single {q : Int → Bool} {x v : Int} : ∀ {n : Nat}, 100 ≤ x → x < 100 + (n : Int) → sumZ q (fun y => if y = x then v else 0) n = if q x then v else 0
  | 0, h1, h2 => by omega
  | n + 1, h1, h2 => by
    rw [sumZ]
    by_cases hx : x = 100 + (n : Int)
    · subst hx
      rw [sumZ_congr (r := q) (h := fun _ => 0) (g := fun y => if y = 100 + (n : Int) then v else 0) (n := n) fun i hi => by
        rw [if_neg (show ¬ (100 + (i : Int) = 100 + (n : Int)) by omega)]]
      have : ∀ m : Nat, sumZ q (fun _ => 0) m = 0 := fun m => by
        induction m with
        | zero => rfl
        | succ m ih => rw [sumZ, ih]; split <;> rfl
      rw [this]
      simp
    · rw [sumZ_single (n := n) h1 (by omega), if_neg (show ¬ (100 + (n : Int) = x) from fun e => hx e.symm)]
      split <;> simp

/-- What a class of accounts has together. -/
def clsN (e : Int) (f : Int → Bool) (c : Int) (l : List Pst) (n : Nat) : Int := sumZ (fun x => decide (classM x = c)) (fun x => ofM e f x l) n
def cnetP (c : Int) (p : Pst) : Int := (if classM p.deb = c then p.amt else 0) - (if classM p.crd = c then p.amt else 0)
theorem clsN_cons (e : Int) (f : Int → Bool) (c : Int) (p : Pst) (l : List Pst) (hp : PstOk p) (n : Nat) (hn : 500 ≤ n) : clsN e f c (p :: l) n = (if hitE e p && f p.day then cnetP c p else 0) + clsN e f c l n := by
  unfold clsN
  simp only [ofM]
  rw [sumZ_add]
  congr 1
  cases hh : (hitE e p && f p.day) with
  | true =>
    have h1 := hp.deb
    have h2 := hp.crd
    simp only [if_true]
    have : sumZ (fun x => decide (classM x = c)) (fun x => netP x p) n = sumZ (fun x => decide (classM x = c)) (fun x => (if x = p.deb then p.amt else 0) + (if x = p.crd then -p.amt else 0)) n := sumZ_congr fun i _ => by
      unfold netP
      congr 1
      split <;> split <;> omega
    rw [this, sumZ_add, sumZ_single h1.1 (by omega), sumZ_single h2.1 (by omega)]
    unfold cnetP
    simp only [decide_eq_true_eq]
    split <;> split <;> omega
  | false =>
    have : ∀ m : Nat, sumZ (fun x => decide (classM x = c)) (fun x => if false = true then netP x p else 0) m = 0 := fun m => by
      induction m with
      | zero => rfl
      | succ m ih => rw [sumZ, ih]; split <;> rfl
    exact this n
def clsM (e : Int) (f : Int → Bool) (c : Int) : List Pst → Int
  | [] => 0
  | p :: l => (if hitE e p && f p.day then cnetP c p else 0) + clsM e f c l
theorem clsM_eq {e : Int} {f : Int → Bool} {c : Int} {n : Nat} (hn : 500 ≤ n) : ∀ {l : List Pst}, (∀ p ∈ l, PstOk p) → clsN e f c l n = clsM e f c l
  | [], _ => by
    have : ∀ m : Nat, clsN e f c [] m = 0 := fun m => by
      induction m with
      | zero => rfl
      | succ m ih =>
        unfold clsN at ih ⊢
        rw [sumZ, ih]
        split <;> rfl
    exact this n
  | p :: l, h => by rw [clsN_cons e f c p l (h p List.mem_cons_self) n hn, clsM_eq hn fun q hq => h q (List.mem_cons_of_mem _ hq)]; rfl

end Go.Proofs.Ytoccnindkimjdaa
