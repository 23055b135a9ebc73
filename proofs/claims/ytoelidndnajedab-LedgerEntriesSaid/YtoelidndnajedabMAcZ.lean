/- Contracts of the account's own Flow, Total, At. -/
import Derived.Test.YtoelidndnajedabMAcY
import Derived.Test.YtoelidndnajedabMAcB
import Derived.Test.YtoelidndnajedabMG7
import Derived.Test.YtoelidndnajedabMAcH
import Derived.Shelf.Abstract
set_option linter.unusedSimpArgs false
set_option linter.unusedVariables false
set_option linter.unusedSimpArgs false
set_option linter.unusedVariables false
namespace Go.Proofs.Ytoelidndnajedab
open Go.RowKit Go.Lib Go.Proofs

theorem untilM_amt {credit : Int} : ∀ {es : List Ent} {l m : List SubA} {last : Ent}, untilM credit 36000 es l last = .ok m → daysM es = true → ∀ e ∈ es, 1 ≤ e.amount ∧ e.amount ≤ 1000000000000
  | [], _, _, _, _, _, _, he => by cases he
  | x :: es, l, m, last, h, hd, e, he => by
    simp only [daysM, List.all_cons, Bool.and_eq_true] at hd
    have hy := (inB_true.1 hd.1).2
    unfold untilM at h
    rw [if_neg (by omega)] at h
    split at h
    · cases h
    · rename_i l' hl
      have hf := faultE_zero (addM_parts hl).1
      rcases List.mem_cons.1 he with rfl | he
      · exact hf.2.2.2.1
      · exact untilM_amt h hd.2 e he
theorem right_amt {a : Acc} (h : checkM a = 0) : ∀ e ∈ a.ents, 1 ≤ e.amount ∧ e.amount ≤ 1000000000000 := by
  obtain ⟨_, _, _, h4, h5⟩ := checkM_zero.1 h
  exact untilM_amt h5 h4
theorem inL_bound : ∀ {l : List Ent}, (∀ e ∈ l, 1 ≤ e.amount ∧ e.amount ≤ 1000000000000) → (0 ≤ inL l ∧ inL l ≤ 1000000000000 * l.length) ∧ (0 ≤ outL l ∧ outL l ≤ 1000000000000 * l.length)
  | [], _ => by simp [inL, outL]
  | e :: l, h => by
    have h1 := h e (by simp)
    have h2 := inL_bound (l := l) (fun x hx => h x (by simp [hx]))
    simp only [inL, outL, inE, outE, List.length_cons]
    constructor <;> split <;> omega
theorem inL_take {l : List Ent} (k : Nat) (hk : k < l.length) : inL (l.take (k + 1)) = inL (l.take k) + inE (entAt l k) ∧ outL (l.take (k + 1)) = outL (l.take k) + outE (entAt l k) := by
  rw [List.take_succ_eq_append_getElem hk, entAt_get hk, inL_snoc, outL_snoc]
  exact ⟨rfl, rfl⟩

def flowM (a : Acc) (lo hi : Int) : Int × Int := if checkM a = 0 then (flowI lo hi a.ents, flowO lo hi a.ents) else (0, 0)

theorem sumM_take {l : List SubA} (k : Nat) (hk : k < l.length) : sumM (l.take (k + 1)) = sumM (l.take k) + (subAt l k).bal := by
  rw [List.take_succ_eq_append_getElem hk, subAt_get hk]
  unfold sumM
  rw [List.map_append, List.sum_append]
  simp

theorem carryL_take {l : List SubA} {es : List Ent} (k : Nat) (hk : k < es.length) : carryL l (es.take (k + 1)) = addP (addP (carryL l (es.take k)) (entAt es k).frm (-(entAt es k).amount)) (entAt es k).to (entAt es k).amount := by
  rw [List.take_succ_eq_append_getElem hk, entAt_get hk, carryL_snoc]

/-- What At hands back. -/
def AtPost (w : World) (a : Acc) (day : Int) (e : Ending) (w' : World) : Prop :=
  if checkM a = 0 then ∃ v, e = .returned v ∧ w'.ownsRow w.heap.size 62 2 v a.subs.length (cellsU (carryL (emptyM a.subs) (a.ents.filter fun e => decide (e.day ≤ day)))) ∧ Below w.heap.size w w'
  else e = .returned (.slice none 0 0) ∧ Below w.heap.size w w'

/-- A world within At: the balances so far, the chosen entries. -/
structure TInv (w : World) (base : Nat) (v : Value) (n : Nat) (m : List SubA) (mid : World) (W : World) : Prop where
  row : W.ownsRow base 62 2 v n (cellsU m)
  old : Below w.heap.size w W
  keep : ∀ k, k < mid.heap.size → v.ownBlock ≠ some k → W.heap[k]? = mid.heap[k]?
  apart : v.ownBlock = none ∨ ∃ g, v.ownBlock = some g ∧ w.heap.size ≤ g ∧ g < mid.heap.size
  size : mid.heap.size ≤ W.heap.size
theorem TInv.later {w : World} {base : Nat} {v : Value} {n : Nat} {m : List SubA} {mid A B : World} (h : TInv w base v n m mid A) (hb : Below A.heap.size A B) : TInv w base v n m mid B :=
  ⟨ownsRow_below h.row hb, h.old.trans (hb.mono h.old.size), fun k hk hn => (hb.block k (Nat.lt_of_lt_of_le hk h.size)).trans (h.keep k hk hn), h.apart, Nat.le_trans h.size hb.size⟩
theorem TInv.step {w : World} {base : Nat} {v : Value} {n : Nat} {m m' : List SubA} {mid A B : World} (h : TInv w base v n m mid A) (ho : B.ownsRow base 62 2 v n (cellsU m')) (hg : A.grownBy B v.ownBlock) : TInv w base v n m' mid B :=
  ⟨ho, h.old.grown hg h.old.size (fun k hk => by
      rcases h.apart with q | ⟨g, q, q1, q2⟩
      · rw [q] at hk; cases hk
      · rw [q] at hk; injection hk with hk; omega), fun k hk hn => (hg.block k (Nat.lt_of_lt_of_le hk h.size) (fun e => hn e.symm)).trans (h.keep k hk hn), h.apart, Nat.le_trans h.size hg.size⟩
theorem TInv.cell {w : World} {base : Nat} {v : Value} {n : Nat} {m : List SubA} {mid W : World} (h : TInv w base v n m mid W) {b j : Nat} (hb : b < mid.heap.size) (hn : v.ownBlock ≠ some b) : W.cell? ⟨b, j, none⟩ = mid.cell? ⟨b, j, none⟩ := by
  unfold World.cell?
  simp only
  rw [h.keep b hb hn]

end Go.Proofs.Ytoelidndnajedab
