/- Bands: what is the least that is enough, as mathematics; of no function of the program. -/
import Derived.Test.YthajkhonapjihabBase
namespace Go.Proofs.Ythajkhonapjihab
open Go.RowKit Go.Lib Go.Proofs

structure Bnd where
  lo : Int
  hi : Int
  lot : Int
  mr : Int
  mp : Int

def Bnd.cells (b : Bnd) : List Value := [.int .i64 b.lo, .int .i64 b.hi, .int .i64 b.lot, .int .i64 b.mr, .int .i64 b.mp]

structure BndOk (b : Bnd) : Prop where
  lo0 : -1000000000000 ≤ b.lo
  le : b.lo ≤ b.hi
  hi1 : b.hi ≤ 1000000000000
  lot0 : 1 ≤ b.lot
  lot1 : b.lot ≤ 1000000000000
  mr0 : 0 ≤ b.mr
  mr1 : b.mr ≤ 1000000000000
  mp0 : 0 ≤ b.mp
  mp1 : b.mp ≤ 1000000000000

/-- The least multiple of the lot that is not less than x. -/
def lotsI (b : Bnd) (x : Int) : Int := (x + b.lot - 1) / b.lot * b.lot
def raiseI (b : Bnd) (a : Int) : Int := if a < b.lo then lotsI b (b.lo - a) else 0
def placeI (b : Bnd) (a : Int) : Int := if a < b.lo then 0 else if b.hi < a then lotsI b (a - b.hi) else 0
/-- A band permits to raise and place so much, and it brings an amount into the band. -/
def enoughB (b : Bnd) (a r p : Int) : Bool := inB r 0 b.mr && (inB p 0 b.mp && (decide (r % b.lot = 0) && (decide (p % b.lot = 0) && ((decide (r = 0) || decide (p = 0)) && inB (a + r - p) b.lo b.hi))))
def okB (b : Bnd) (a : Int) : Bool := enoughB b a (raiseI b a) (placeI b a)

theorem lots_mul (b : Bnd) (x : Int) : lotsI b x % b.lot = 0 := by unfold lotsI; exact Int.mul_emod_left _ _
theorem lots_ge {b : Bnd} (h : 1 ≤ b.lot) (x : Int) : x ≤ lotsI b x := by
  unfold lotsI
  have := Int.emod_lt_of_pos (x + b.lot - 1) (show 0 < b.lot by omega)
  have e := Int.mul_ediv_add_emod (x + b.lot - 1) b.lot
  rw [Int.mul_comm] at e
  omega
theorem lots_le {b : Bnd} (h : 1 ≤ b.lot) (x : Int) : lotsI b x ≤ x + b.lot - 1 := by
  unfold lotsI
  have := Int.emod_nonneg (x + b.lot - 1) (show b.lot ≠ 0 by omega)
  have e := Int.mul_ediv_add_emod (x + b.lot - 1) b.lot
  rw [Int.mul_comm] at e
  omega
theorem mult_gap {d x y : Int} (h : 1 ≤ d) (hx : x % d = 0) (hy : y % d = 0) (hlt : x < y) : x + d ≤ y := by
  obtain ⟨k, rfl⟩ := Int.dvd_of_emod_eq_zero hx
  obtain ⟨m, rfl⟩ := Int.dvd_of_emod_eq_zero hy
  have hkm : k < m := Int.lt_of_mul_lt_mul_left hlt (by omega)
  have := Int.mul_le_mul_of_nonneg_left (show k + 1 ≤ m by omega) (show 0 ≤ d by omega)
  rw [Int.mul_add, Int.mul_one] at this
  exact this
/-- The least multiple that is not less than x. -/
theorem lots_least {b : Bnd} (h : 1 ≤ b.lot) {x n : Int} (hn : n % b.lot = 0) (hx : x ≤ n) : lotsI b x ≤ n := by
  rcases Int.lt_or_le n (lotsI b x) with hlt | hle
  · have := mult_gap h hn (lots_mul b x) hlt
    have := lots_le h x
    omega
  · exact hle

/-- What works: so much raised, or so much placed. -/
def works (b : Bnd) (a n : Int) : Prop := (n ≤ b.mr ∧ b.lo ≤ a + n ∧ a + n ≤ b.hi) ∨ (n ≤ b.mp ∧ b.lo ≤ a - n ∧ a - n ≤ b.hi)

theorem enoughB_iff {b : Bnd} {a r p : Int} : enoughB b a r p = true ↔ (0 ≤ r ∧ r ≤ b.mr) ∧ (0 ≤ p ∧ p ≤ b.mp) ∧ r % b.lot = 0 ∧ p % b.lot = 0 ∧ (r = 0 ∨ p = 0) ∧ b.lo ≤ a + r - p ∧ a + r - p ≤ b.hi := by
  unfold enoughB
  simp only [Bool.and_eq_true, Bool.or_eq_true, decide_eq_true_eq, inB_true]

theorem raise_place {b : Bnd} (h : BndOk b) (a : Int) : 0 ≤ raiseI b a ∧ 0 ≤ placeI b a ∧ raiseI b a % b.lot = 0 ∧ placeI b a % b.lot = 0 ∧ (raiseI b a = 0 ∨ placeI b a = 0) := by
  unfold raiseI placeI
  have g1 := lots_ge h.lot0 (b.lo - a)
  have g2 := lots_ge h.lot0 (a - b.hi)
  have m1 := lots_mul b (b.lo - a)
  have m2 := lots_mul b (a - b.hi)
  split
  · exact ⟨by omega, by omega, m1, by simp, Or.inr rfl⟩
  · split
    · exact ⟨by omega, by omega, by simp, m2, Or.inl rfl⟩
    · exact ⟨by omega, by omega, by simp, by simp, Or.inl rfl⟩

/-- What works is not less than what is decided, which then is enough. -/
theorem works_least {b : Bnd} (h : BndOk b) {a n : Int} (n0 : 0 ≤ n) (hn : n % b.lot = 0) (hw : works b a n) : okB b a = true ∧ raiseI b a + placeI b a ≤ n := by
  obtain ⟨r0, p0, rm, pm, ro⟩ := raise_place h a
  have ok : ∀ r p : Int, raiseI b a = r → placeI b a = p → r ≤ b.mr → p ≤ b.mp → b.lo ≤ a + r - p → a + r - p ≤ b.hi → okB b a = true := fun r p hr hp h1 h2 h3 h4 => by
    unfold okB
    rw [enoughB_iff]
    subst hr hp
    exact ⟨⟨r0, h1⟩, ⟨p0, h2⟩, rm, pm, ro, h3, h4⟩
  have hle := h.le
  have hmr := h.mr0
  have hmp := h.mp0
  unfold raiseI placeI at *
  by_cases h1 : a < b.lo
  · rw [if_pos h1, if_pos h1] at *
    have g := lots_ge h.lot0 (b.lo - a)
    have l : lotsI b (b.lo - a) ≤ n := lots_least h.lot0 hn (by rcases hw with hw | hw <;> omega)
    refine ⟨ok _ _ rfl rfl ?_ ?_ ?_ ?_, by omega⟩
    all_goals (rcases hw with hw | hw <;> omega)
  · rw [if_neg h1, if_neg h1] at *
    by_cases h2 : b.hi < a
    · rw [if_pos h2] at *
      have g := lots_ge h.lot0 (a - b.hi)
      have l : lotsI b (a - b.hi) ≤ n := lots_least h.lot0 hn (by rcases hw with hw | hw <;> omega)
      refine ⟨ok _ _ rfl rfl ?_ ?_ ?_ ?_, by omega⟩
      all_goals (rcases hw with hw | hw <;> omega)
    · rw [if_neg h2] at *
      exact ⟨ok _ _ rfl rfl (by omega) (by omega) (by omega) (by omega), by omega⟩

/-- What is decided works. -/
theorem ok_works {b : Bnd} {a : Int} (hk : okB b a = true) : works b a (raiseI b a + placeI b a) ∧ (raiseI b a + placeI b a) % b.lot = 0 ∧ 0 ≤ raiseI b a + placeI b a ∧ (raiseI b a = 0 ∨ placeI b a = 0) := by
  unfold okB at hk
  obtain ⟨h1, h2, h3, h4, h5, h6, h7⟩ := enoughB_iff.1 hk
  refine ⟨?_, ?_, by omega, h5⟩
  · rcases h5 with h5 | h5
    · right; omega
    · left; omega
  · rcases h5 with h5 | h5
    · rw [h5, Int.zero_add]; exact h4
    · rw [h5, Int.add_zero]; exact h3

/-- A wider band, smaller lots that divide the old ones: no less is possible, and no more is needed. -/
theorem wider {b c : Bnd} (hc : BndOk c) (h1 : c.lo ≤ b.lo) (h2 : b.hi ≤ c.hi) (h3 : b.mr ≤ c.mr) (h4 : b.mp ≤ c.mp) (hl : c.lot ∣ b.lot) {a : Int} (hk : okB b a = true) : okB c a = true ∧ raiseI c a + placeI c a ≤ raiseI b a + placeI b a := by
  obtain ⟨w, m, n0, _⟩ := ok_works hk
  refine works_least hc n0 (Int.emod_eq_zero_of_dvd (Int.dvd_trans hl (Int.dvd_of_emod_eq_zero m))) ?_
  unfold works at w ⊢
  rcases w with w | w
  · left; omega
  · right; omega

end Go.Proofs.Ythajkhonapjihab
