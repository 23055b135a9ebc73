/- Registers, as mathematics: what is outstanding, and the debt, as sums over moves and securities; of no function of the program; no condition. -/
import Derived.Test.YtnfllgeneehjjaaMRhO
set_option linter.unusedSimpArgs false
set_option linter.unusedVariables false
namespace Go.Proofs.Ytnfllgeneehjjaa
open Go.RowKit Go.Lib Go.Proofs

theorem issL_snoc (i : Int) (m : Mv) : ∀ ms : List Mv, issL i (ms ++ [m]) = issL i ms + issM m i
  | [] => by simp [issL]
  | a :: ms => by
    have := issL_snoc i m ms
    simp only [List.cons_append, issL, this]
    omega
theorem issM_bound {m : Mv} (h : 1 ≤ m.amt ∧ m.amt ≤ 1000000000000) (i : Int) : -1000000000000 ≤ issM m i ∧ issM m i ≤ 1000000000000 := by
  unfold issM
  split
  · split
    · omega
    · split <;> omega
  · omega
theorem issL_bound (i : Int) : ∀ {ms : List Mv}, (∀ m ∈ ms, 1 ≤ m.amt ∧ m.amt ≤ 1000000000000) → -1000000000000 * (ms.length : Int) ≤ issL i ms ∧ issL i ms ≤ 1000000000000 * (ms.length : Int)
  | [], _ => by simp [issL]
  | m :: ms, h => by
    have h1 := issM_bound (h m List.mem_cons_self) i
    have h2 := issL_bound i (ms := ms) fun x hx => h x (List.mem_cons_of_mem _ hx)
    simp only [issL, List.length_cons]
    push_cast
    omega
/-- A sum over securities. -/
def sumS (f : Int → Int) : List Sec → Int
  | [] => 0
  | s :: l => f s.id + sumS f l
theorem sumS_snoc (f : Int → Int) (s : Sec) : ∀ l : List Sec, sumS f (l ++ [s]) = sumS f l + f s.id
  | [] => by simp [sumS]
  | a :: l => by
    have := sumS_snoc f s l
    simp only [List.cons_append, sumS, this]
    omega
theorem sumS_add (f g : Int → Int) : ∀ l : List Sec, sumS (fun i => f i + g i) l = sumS f l + sumS g l
  | [] => rfl
  | s :: l => by
    have := sumS_add f g l
    simp only [sumS, this]
    omega
theorem sumS_none {a i : Int} : ∀ {l : List Sec}, (∀ s ∈ l, i ≠ s.id) → sumS (fun j => if i = j then a else 0) l = 0
  | [], _ => rfl
  | s :: l, h => by
    have := sumS_none (a := a) (i := i) (l := l) fun x hx => h x (List.mem_cons_of_mem _ hx)
    simp only [sumS, this, if_neg (h s List.mem_cons_self)]
    omega
theorem sumS_one {a i : Int} {t : Sec} : ∀ {l : List Sec}, l.Pairwise (fun a b => a.id < b.id) → findS i l = some t → sumS (fun j => if i = j then a else 0) l = a
  | [], _, h => by simp [findS] at h
  | s :: l, hp, h => by
    have hp2 := List.pairwise_cons.1 hp
    simp only [findS] at h
    by_cases e : s.id = i
    · have := sumS_none (a := a) (i := i) (l := l) fun x hx => by have := hp2.1 x hx; omega
      simp only [sumS, this, if_pos e.symm]
      omega
    · rw [if_neg e] at h
      have := sumS_one (a := a) hp2.2 h
      simp only [sumS, this, if_neg (show ¬ i = s.id from fun q => e q.symm)]
      omega
theorem debt_out {secs : List Sec} (hs : ∀ s ∈ secs, s.mat ≤ 36000) (ha : secs.Pairwise fun a b => a.id < b.id) : ∀ {ms : List Mv} {l : List Hld} {b : Mv} {k : List Hld}, replayM secs l b ms = some k → debtM l = sumS (outM l) secs → debtM k = sumS (outM k) secs
  | [], l, b, k, h, h0 => by simp only [replayM] at h; injection h with h; subst h; exact h0
  | m :: ms, l, b, k, h, h0 => by
    simp only [replayM] at h
    split at h
    · rename_i hc
      obtain ⟨s, hk⟩ := fault_zero hs hc.2
      refine debt_out hs ha h ?_
      rw [debtM_carry, h0]
      have e : outM (carryM l m) = fun i => outM l i + (if m.sec = i then issM m m.sec else 0) := by
        funext i
        rw [outM_carry]
        congr 1
        by_cases q : m.sec = i
        · rw [if_pos q, q]
        · rw [if_neg q]; unfold issM; rw [if_neg q]
      rw [e, sumS_add, sumS_one ha hk.sec]
    · cases h
theorem sumS_zero : ∀ l : List Sec, sumS (fun _ => 0) l = 0
  | [] => rfl
  | s :: l => by simp [sumS, sumS_zero l]
theorem RegOk.debt {r : Reg} (h : RegOk r) : debtM r.hs = sumS (outM r.hs) r.secs :=
  debt_out (fun s hs => (h.secs.bound s hs).2.2) h.secs.asc h.run (by
    show (0 : Int) = sumS (fun _ => 0) r.secs
    rw [sumS_zero])
theorem RegOk.out {r : Reg} (h : RegOk r) (i : Int) : outM r.hs i = issL i r.ms := by
  have := replay_out i h.run
  rw [this]
  show (0 : Int) + _ = _
  omega
theorem RegOk.amts {r : Reg} (h : RegOk r) : ∀ m ∈ r.ms, 1 ≤ m.amt ∧ m.amt ≤ 1000000000000 := fun m hm => by
  obtain ⟨l', bd, s, hk⟩ := replay_mem (fun s hs => (h.secs.bound s hs).2.2) h.run m hm
  exact hk.amt
theorem findS_at {l : List Sec} (ha : l.Pairwise fun a b => a.id < b.id) {s : Sec} (hs : s ∈ l) : findS s.id l = some s := by
  induction l with
  | nil => cases hs
  | cons a l ih =>
    have hp := List.pairwise_cons.1 ha
    unfold findS
    rcases List.mem_cons.1 hs with rfl | hs
    · rw [if_pos rfl]
    · have := hp.1 s hs
      rw [if_neg (by omega)]
      exact ih hp.2 hs
theorem RegOk.unit {r : Reg} (h : RegOk r) {s : Sec} (hs : s ∈ r.secs) : outM r.hs s.id % s.unit = 0 :=
  replay_unit (fun s hs => ⟨(h.secs.bound s hs).2.2, ((h.secs.ok s hs).unit).1⟩) (findS_at h.secs.asc hs) h.run (by show (0 : Int) % _ = 0; simp)

end Go.Proofs.Ytnfllgeneehjjaa
