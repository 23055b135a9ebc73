/- Contracts of package liquidity's Interest, and of the reference's comparison of plans. -/
import Derived.Test.YthajkhonapjihabSfPl
import Derived.Test.YthajkhonapjihabLqN
import Derived.Laws.StructEq
set_option linter.unusedSimpArgs false
set_option linter.unusedVariables false
namespace Go.Proofs.Ythajkhonapjihab
open Go.RowKit Go.Lib Go.Proofs

theorem plan_neq_same (x y z : Int) (W : World) : (binOp .neq 81 (.agg #[.int .i64 x, .int .i64 y, .int .i64 z]) (.agg #[.int .i64 x, .int .i64 y, .int .i64 z])).run Try.prog W = .ok (.bool false) W := by
  rw [run_neq_struct]
  simp [go_sem]

/-- The interest on an amount for a day. -/
def forDayI (a q : Int) : Int := (2 * a * q + 36000000) / 72000000
def interestM (q1 q2 : Int) : List Pl → Int
  | [] => 0
  | p :: l => forDayI p.raise q1 - forDayI p.place q2 + interestM q1 q2 l
structure PlIn (l : List Pl) : Prop where
  bd : ∀ p ∈ l, 0 ≤ p.raise ∧ p.raise ≤ 1000000000000 ∧ 0 ≤ p.place ∧ p.place ≤ 1000000000000
  len : l.length ≤ 1000

theorem forDay_in {a q : Int} (a0 : 0 ≤ a) (a1 : a ≤ 1000000000000) (q0 : 0 ≤ q) (q1 : q ≤ 20000) : 0 ≤ 2 * a * q ∧ 2 * a * q ≤ 40000000000000000 ∧ 0 ≤ forDayI a q ∧ forDayI a q ≤ 600000000 := by
  have h0 : 0 ≤ 2 * a * q := Int.mul_nonneg (by omega) q0
  have h1 : 2 * a * q ≤ 2000000000000 * 20000 := Int.mul_le_mul (by omega) q1 q0 (by decide)
  unfold forDayI
  omega
theorem interest_snoc (q1 q2 : Int) (p : Pl) : ∀ l, interestM q1 q2 (l ++ [p]) = interestM q1 q2 l + (forDayI p.raise q1 - forDayI p.place q2)
  | [] => by simp [interestM]
  | x :: l => by simp only [List.cons_append, interestM, interest_snoc q1 q2 p l]; omega
theorem interest_in {q1 q2 : Int} (a0 : 0 ≤ q1) (a1 : q1 ≤ 20000) (b0 : 0 ≤ q2) (b1 : q2 ≤ 20000) : ∀ l : List Pl, (∀ p ∈ l, 0 ≤ p.raise ∧ p.raise ≤ 1000000000000 ∧ 0 ≤ p.place ∧ p.place ≤ 1000000000000) → -600000000 * (l.length : Int) ≤ interestM q1 q2 l ∧ interestM q1 q2 l ≤ 600000000 * (l.length : Int)
  | [], _ => by simp [interestM]
  | p :: l, h => by
    have ih := interest_in a0 a1 b0 b1 l fun x hx => h x (List.mem_cons_of_mem _ hx)
    obtain ⟨h1, h2, h3, h4⟩ := h p (List.mem_cons_self ..)
    have g1 := forDay_in h1 h2 a0 a1
    have g2 := forDay_in h3 h4 b0 b1
    simp only [interestM, List.length_cons]
    omega

set_option maxRecDepth 100000 in
set_option maxHeartbeats 1000000 in
theorem lqamountsC_ok (d : Int) {r p : Int} (r0 : 0 ≤ r) (r1 : r ≤ 1000000000000) (p0 : 0 ≤ p) (p1 : p ≤ 1000000000000) (w : World) : Calls Try.prog 78 #[.agg #[.int .i64 d, .int .i64 r, .int .i64 p]] w fun e w' => e = .returned (.bool false) ∧ Below w.heap.size w w' := by
  go_enter Try.func78, Try.ntmps78
  go_wp2_with (go_at_call 39; refine (Valid_yes _ (by omega) (by omega)).mono ?_; rintro e w' ⟨rfl, rfl⟩)
  go_ret
  exact ⟨rfl, below_alloc w _⟩

set_option maxRecDepth 100000 in
set_option maxHeartbeats 400000 in
theorem lqamounts_ok {l : List Pl} (h : PlIn l) (v : Value) (w : World) (hv : ListAt plC 3 w v l) : Calls Try.prog 52 #[v] w fun e w' => e = .returned (.bool true) ∧ Below w.heap.size w w' := by
  have HC := Lib.hid (plContains_any 78 #[] (enters_of Try.func78 (by kernel_rfl) rfl) (fun _ => false) l v w hv (by have := h.len; omega) fun x hx W _ => by
    obtain ⟨h1, h2, h3, h4⟩ := h.bd x hx
    have := lqamountsC_ok x.day h1 h2 h3 h4 W
    simpa [plC] using this)
  rw [show (l.any fun _ => false) = false from List.any_eq_false.2 fun x hx => by simp] at HC
  clear h hv
  go_enter Try.func52, Try.ntmps52
  go_wp2_with fail
  refine (HC.out).mono ?_
  rintro e w1 ⟨rfl, hb⟩
  go_wp2
  go_ret
  exact ⟨rfl, hb⟩

end Go.Proofs.Ythajkhonapjihab
