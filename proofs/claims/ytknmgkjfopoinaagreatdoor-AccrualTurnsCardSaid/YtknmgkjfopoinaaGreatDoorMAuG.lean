/- What the laws on closings share: bounds of small books and closings, and Close of such. -/
import Derived.Test.YtknmgkjfopoinaaGreatDoorMG8
import Derived.Test.YtknmgkjfopoinaaGreatDoorMLgHs
import Derived.Test.YtknmgkjfopoinaaGreatDoorMAuL
set_option linter.unusedSimpArgs false
set_option linter.unusedVariables false
set_option linter.unusedSimpArgs false
set_option linter.unusedVariables false
namespace Go.Proofs.YtknmgkjfopoinaaGreatDoor
open Go.RowKit Go.Lib Go.Proofs

theorem lastP_le {l : List Pst} {d : Int} (h0 : 0 ≤ d) (h : ∀ p ∈ l, p.day ≤ d) : (lastP l).day ≤ d := by
  cases hl : l.getLast? with
  | none => unfold lastP; rw [hl]; exact h0
  | some p => unfold lastP; rw [hl]; exact h p (List.mem_of_getLast? hl)
theorem numP_day (d e : Int) : ∀ (n : Int) (l : List Pst), ∀ p ∈ numP n d e l, p.day = d
  | _, [], p, h => by cases h
  | n, q :: l, p, h => by
    rw [numP, List.mem_cons] at h
    rcases h with rfl | h
    · rfl
    · exact numP_day d e (n + 1) l p h
theorem cls_days {l : List Pst} {e i u p o r : Int} (h : ∀ q ∈ l, q.day ≤ 719) : ∀ q ∈ clsL l e i u p o r, q.day ≤ 719 := by
  intro q hq
  unfold clsL closeM at hq
  rcases List.mem_append.1 hq with hq | hq
  · exact h q hq
  · rw [numP_day _ _ _ _ q hq]; exact Int.le_refl _
theorem cls_len (l : List Pst) (e i u p o r : Int) : (clsL l e i u p o r).length ≤ l.length + 5 := (close_len _ _ _ _ _ _ _ _).2

/-- A closing's claims are small. -/
structure ClsB (cl : List Clm) (o r : Int) : Prop where
  ok : ∀ x ∈ cl, ClmG x
  len : cl.length ≤ 60
  eo : o = openC cl
  er : r = provM 719 cl
  le : 0 ≤ r ∧ r ≤ o ∧ o ≤ 1250
theorem openS_in : ∀ {l : List Clm}, (∀ c ∈ l, ClmS c) → openC l ≤ 250 * (l.length : Int)
  | [], _ => by simp [openC]
  | c :: l, h => by
    have h1 := openS_in fun x hx => h x (List.mem_cons_of_mem _ hx)
    obtain ⟨-, h2, h3, -⟩ := h c List.mem_cons_self
    rw [openC, List.length_cons]
    omega
theorem clsB_of {i u p : Int} {cl : List Clm} (h : ClsS i u p cl) : ClsB cl (openC cl) (provM 719 cl) := by
  have h1 : ∀ x ∈ cl, ClmG x := fun x hx => (h.ok x hx).1
  have h2 := prov_open (day := 719) h1
  have h3 := openS_in h.ok
  have h4 := h.len
  exact ⟨h1, by omega, rfl, rfl, h2.1, h2.2, by omega⟩
theorem clsB_nil : ClsB [] 0 0 := ⟨by simp, by simp, rfl, rfl, by decide⟩
/-- Books of the source are small. -/
theorem books_few {l : List Pst} {days : Int} (h : LdgIn l 2 days) (hl : (l.length : Int) ≤ 10) (e : Int) (f : Int → Bool) (a : Int) : -10000 ≤ ofM e f a l ∧ ofM e f a l ≤ 10000 := by
  have h1 := ofM_few (e := e) (f := f) (a := a) (B := 1000) (by decide) (l := l) fun p hp => by
    have h2 := (h.ent p hp).2
    have h3 := (h.ok.mem p hp).amt
    omega
  omega
theorem books_days {l : List Pst} (h : LdgIn l 2 700) : ∀ q ∈ l, q.day ≤ 719 := fun q hq => by
  have h1 := h.ok.days q hq
  have h2 := h.day
  omega

theorem lawClose {l : List Pst} (h : LdgOk l) (hlen : l.length ≤ 300) (hdays : ∀ q ∈ l, q.day ≤ 719) {cl : List Clm} {i u p e o r : Int} (hB : ClsB cl o r) (he : 1 ≤ e ∧ e ≤ 10) (hi : 0 ≤ i ∧ i ≤ 1000) (hu : 0 ≤ u ∧ u ≤ 1000) (hp : 0 ≤ p ∧ p ≤ 1000)
    (h1 : -10000 ≤ ofM e (byDay 719) 120 l ∧ ofM e (byDay 719) 120 l ≤ 10000) (h2 : -10000 ≤ ofM e (byDay 719) 119 l ∧ ofM e (byDay 719) 119 l ≤ 10000) (vl vc : Value) (w : World) (hL : Lay w) (hvl : PstsAt w vl l) (hvc : ListAt clmC 6 w vc cl) :
    Calls Tryz.prog 10 #[.agg #[vl], .int .i64 e, .int .i64 719, .agg #[.int .i64 i, .int .i64 u, .int .i64 p, vc]] w fun en w' => ∃ v, en = .returned (.tuple #[.agg #[v], .int .i64 0]) ∧ PstsAt w' v (clsL l e i u p o r) ∧ Below w.heap.size w w' := by
  have hle := hB.le
  refine aaClose_right h hB.ok hB.len he (by decide) (lastP_le (by decide) hdays) (by decide) (by omega) (by omega) (by omega) _ _ (by rw [hB.eo]) (by rw [hB.er]) (by omega) (by omega) (by omega) vl vc w hL hvl hvc
theorem lawClose_ok {l : List Pst} (h : LdgOk l) (hlen : l.length ≤ 300) (hdays : ∀ q ∈ l, q.day ≤ 719) {i u p e o r : Int} (hB : 0 ≤ r ∧ r ≤ o ∧ o ≤ 1250) (he : 1 ≤ e ∧ e ≤ 10) (hi : 0 ≤ i ∧ i ≤ 1000) (hu : 0 ≤ u ∧ u ≤ 1000) (hp : 0 ≤ p ∧ p ≤ 1000)
    (h1 : -10000 ≤ ofM e (byDay 719) 120 l ∧ ofM e (byDay 719) 120 l ≤ 10000) (h2 : -10000 ≤ ofM e (byDay 719) 119 l ∧ ofM e (byDay 719) 119 l ≤ 10000) : LdgOk (clsL l e i u p o r) := by
  unfold clsL
  exact close_ok h (by omega) (lastP_le (by decide) hdays) (by decide) he (by omega) (by omega) (by omega) (by omega) (by omega)

theorem books_ne {l : List Pst} (h : LdgIn l 2 700) : ∀ q ∈ l, q.day ≠ 719 := fun q hq => by
  have h1 := h.ok.days q hq
  have h2 := h.day
  omega
theorem eff_back (i u p c d : Int) : ∀ t ∈ ([220, 210, 130, 520, 510] : List Int), effC i u p c d t = effT i u p t := by
  intro t ht
  simp only [List.mem_cons, List.mem_nil_iff, or_false] at ht
  unfold effC effT
  rcases ht with rfl | rfl | rfl | rfl | rfl <;> simp
/-- Closing and reopening leave these accounts as they were. -/
theorem turn_back {l : List Pst} (h : ∀ q ∈ l, q.day ≠ 719) (i u p o r : Int) {t : Int} (ht : t ∈ ([220, 210, 130, 520, 510] : List Int)) : ofM 1 (byDay 720) t (turnM (clsL l 1 i u p o r) 1 719) = ofM 1 (byDay 720) t l := by
  unfold clsL
  rw [close_turn_of h, if_pos ⟨Or.inr rfl, by simp [byDay]⟩, if_pos ⟨Or.inr rfl, by simp [byDay]⟩, eff_back _ _ _ _ _ t ht]
  omega
theorem turn_days {l : List Pst} {e d : Int} (h : ∀ q ∈ l, q.day ≤ d) : (turnM l e d).length ≤ l.length + l.length := by
  unfold turnM
  rw [List.length_append, numT_len]
  have h1 : (pickT e d l).length ≤ l.length := List.length_filter_le _ _
  omega
theorem lawTurn_ok {l : List Pst} (h : LdgOk l) (hlen : l.length ≤ 100) (hdays : ∀ q ∈ l, q.day ≤ 719) {e : Int} : LdgOk (turnM l e 719) := turn_ok h (by omega) (Int.le_trans (lastP_le (by decide) hdays) (by decide)) (by decide)

theorem clsM_len {e : Int} {f : Int → Bool} {c : Int} : ∀ {l : List Pst}, (∀ p ∈ l, PstOk p) → -1000000000000 * (l.length : Int) ≤ clsM e f c l ∧ clsM e f c l ≤ 1000000000000 * (l.length : Int)
  | [], _ => by simp [clsM]
  | p :: l, hp => by
    have h1 := clsM_len (e := e) (f := f) (c := c) (l := l) fun q hq => hp q (List.mem_cons_of_mem _ hq)
    have h2 := (hp p List.mem_cons_self).amt
    have h3 : -1000000000000 ≤ cnetP c p ∧ cnetP c p ≤ 1000000000000 := by
      unfold cnetP
      constructor <;> (repeat' split) <;> omega
    simp only [clsM, List.length_cons]
    split <;> constructor <;> omega
/-- What a closing without claims takes out of its year's result it puts into the next one. -/
theorem shift_res {l : List Pst} (h : ∀ q ∈ l, q.day ≠ 719) (i u p : Int) (h1 : ofM 1 (byDay 719) 120 l = 0) (h2 : ofM 1 (byDay 719) 119 l = 0) :
    resM 1 (amidDay (360 * 1) (360 * 1 + 359)) (turnM (clsL l 1 i u p 0 0) 1 719) = resM 1 (amidDay (360 * 1) (360 * 1 + 359)) l - (i + u - p) ∧ resM 1 (amidDay (360 * 2) (360 * 2 + 359)) (turnM (clsL l 1 i u p 0 0) 1 719) = resM 1 (amidDay (360 * 2) (360 * 2 + 359)) l + (i + u - p) := by
  unfold clsL
  rw [h1, h2, show (0 : Int) - 0 = 0 by decide, show -(0 : Int) - 0 = 0 by decide]
  constructor
  · rw [res_close_turn h 1 i u p (by decide), if_pos (by decide), if_neg (by decide)]
    omega
  · rw [res_close_turn h 1 i u p (by decide), if_neg (by decide), if_pos (by decide)]
    omega
theorem resM_small {l : List Pst} (h : LdgOk l) (e : Int) (f : Int → Bool) : -400000000000000000 ≤ resM e f l ∧ resM e f l ≤ 400000000000000000 := by
  have h4 := clsM_len (e := e) (f := f) (c := 4) h.mem
  have h5 := clsM_len (e := e) (f := f) (c := 5) h.mem
  have hl := h.len
  unfold resM
  omega
/-- The list of balances of two books that agree. -/
theorem bals_congr {F G : Nat → Int} (h : ∀ i, F i = G i) (n : Nat) : balsN F n = balsN G n := by rw [show F = G from funext h]

end Go.Proofs.YtknmgkjfopoinaaGreatDoor
