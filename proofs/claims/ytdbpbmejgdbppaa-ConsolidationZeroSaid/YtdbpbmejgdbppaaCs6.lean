/- Consolidated balances add up to 0, and stand in their order; what is not between entities is the sum of theirs: for every tape and day. -/
import Derived.Test.YtdbpbmejgdbppaaCsQ
import Derived.Test.YtdbpbmejgdbppaaCsJ
import Derived.Test.YtdbpbmejgdbppaaCs5
import Derived.Test.YtdbpbmejgdbppaaLgH
import Derived.Deep.QuietTactic
set_option linter.unusedSimpArgs false
set_option linter.unusedVariables false
namespace Go.Proofs.Ytdbpbmejgdbppaa
open Go.RowKit Go.Lib Go.Proofs Go.Maps

theorem index_g (a b c d : Value) (W : World) : (Instr.index 52 (.agg #[a, b, c, d]) (.int .i64 0)).run Try.prog W = .ok a W ∧ (Instr.index 52 (.agg #[a, b, c, d]) (.int .i64 1)).run Try.prog W = .ok b W ∧ (Instr.index 52 (.agg #[a, b, c, d]) (.int .i64 2)).run Try.prog W = .ok c W ∧ (Instr.index 52 (.agg #[a, b, c, d]) (.int .i64 3)).run Try.prog W = .ok d W := ⟨by kernel_rfl, by kernel_rfl, by kernel_rfl, by kernel_rfl⟩

theorem zero_small {d t : Int} {l : List Pst} {g : List Int} (h : LdgOk l) (hl : l.length ≤ 12) (hg : g.length ≤ 3) : -3000000000000000 ≤ wholeM d l g t ∧ wholeM d l g t ≤ 3000000000000000 := by
  have h1 := elAc_bound (d := d) (t := t) h.mem (qs := eachQ g (refsM l)) fun q hq => (mem_eachQ hq).1
  have h3 := refsM_len l
  have h2 : (eachQ g (refsM l)).length ≤ 216 := by
    have k1 := kindQ_len mut1 g (refsM l) g
    have k2 := kindQ_len mut2 g (refsM l) g
    have k3 : g.length * (g.length * (refsM l).length) ≤ 3 * (3 * 12) := Nat.mul_le_mul hg (Nat.mul_le_mul hg (by omega))
    unfold eachQ kindQ
    rw [List.length_append]
    omega
  have h4 : 1000000000000 * (l.length : Int) * ((eachQ g (refsM l)).length : Int) ≤ 12000000000000 * 216 := Int.mul_le_mul (by omega) (by omega) (by omega) (by omega)
  have h5 : ∀ g : List Int, -(12000000000000 * (g.length : Int)) ≤ grpM d l t g ∧ grpM d l t g ≤ 12000000000000 * (g.length : Int) := by
    intro g
    induction g with
    | nil => simp [grpM]
    | cons e g ih =>
      have h3 := ofM_bound (e := e) (f := fun x => decide (x ≤ d)) (a := t) h.mem
      rw [grpM, List.length_cons]
      omega
  have h6 := h5 g
  unfold wholeM
  omega
theorem grp_small {d t : Int} {l : List Pst} (h : LdgOk l) (hl : l.length ≤ 12) : ∀ g : List Int, -(12000000000000 * (g.length : Int)) ≤ grpM d l t g ∧ grpM d l t g ≤ 12000000000000 * (g.length : Int)
  | [] => by simp [grpM]
  | e :: g => by
    have ih := grp_small h hl (d := d) (t := t) g
    have h3 := ofM_bound (e := e) (f := fun x => decide (x ≤ d)) (a := t) h.mem
    rw [grpM, List.length_cons]
    omega
theorem grpM_take {d t : Int} {l : List Pst} {g : List Int} {j : Nat} (hj : j < g.length) : grpM d l t (g.take (j + 1)) = grpM d l t (g.take j) + ofM g[j] (byDay d) t l := by
  rw [List.take_succ_eq_append_getElem hj, grpM_app]
  simp [grpM]
theorem totB_take {L : List Blc} {j : Nat} (hj : j < L.length) : totB (L.take (j + 1)) = totB (L.take j) + L[j].amt := by
  rw [List.take_succ_eq_append_getElem hj, totB_append]
  simp [totB]

/-- What stands in a slice of numbers, at its places. -/
theorem ints_cells {W : World} {b m cap : Nat} {g : List Int} (h : ListAt intC 1 W (.slice (some ⟨b, 0, none⟩) m cap) g) (i : Nat) (hi : i < g.length) : b < W.heap.size ∧ W.cell? ⟨b, i, none⟩ = some (.int .i64 g[i]) := by
  obtain ⟨ao, cp, e, hc, hs⟩ := h.shape intF
  injection e with e1 e2 e3
  obtain ⟨b2, o2, e4, hb, hcc⟩ := hs (by omega)
  rw [e4] at e1
  injection e1 with e1
  injection e1 with e5 e6
  subst e5 e6
  have := hcc i hi 0 (by omega)
  exact ⟨hb, by simpa [intC] using this⟩

end Go.Proofs.Ytdbpbmejgdbppaa
