/- The statement 'for x, y := range seq' where the iterator makes new memory alone between two rounds: what such an iterator promises, and what a loop over it then does; of no function of the program; no condition. -/
import Derived.Test.YtblidmkkbcobgaaMG1
import Derived.RangeFuncBox
import Derived.RangeFuncLeaves
import Derived.RangeFuncCalls
import Derived.RangeFuncBound
import Derived.Shelf.Abstract
import Derived.OwnWalkIn
import Derived.TacticsInMore
import Derived.LoopNIn
import Derived.LoopIn
set_option linter.unusedSimpArgs false
set_option linter.unusedVariables false
namespace Go.Proofs.Ytblidmkkbcobgaa
open Go.RowKit Go.Lib Go.Proofs

/-- The iterator g (with its first arguments, fst, and what it has captured, lb) hands on xs in order, until a round says no; between two rounds it makes new blocks alone. What it asks of a round that goes on is Kp. -/
def SeqP {α : Type} (P : Program) (g : Nat) (fst lb : Array Value) (encs : α → Array Value) (Kp : World → World → Prop) (xs : List α) (w : World) : Prop :=
  ∀ (l : Nat) (J Jx : List α → World → Prop) (W : World), Below w.heap.size w W →
    (∀ pre A B, J pre A → Below A.heap.size A B → J pre B) →
    (∀ pre x A, (pre ++ [x]) <+: xs → J pre A → YieldAt Fence.wide 0 P l (encs x) A fun e B => (e = .returned (.bool true) ∧ J (pre ++ [x]) B ∧ Kp A B) ∨ (e = .returned (.bool false) ∧ Jx (pre ++ [x]) B)) →
    J [] W →
    CallsIn Fence.wide 0 P g (fst ++ #[.func (.yield l) #[] #[]] ++ lb) W fun e B => (∃ v, e = .returned v) ∧ (J xs B ∨ ∃ pre, pre <+: xs ∧ Jx pre B)

/-- How a round may be left: it goes on, and keeps what the iterator asks; or it leaves. -/
def roundEnd {α : Type} (Kp : World → World → Prop) (I : List α → World → Prop) (Ix : Code → List α → World → Prop) (xs : List α) (A : World) : Exit → Act → World → Prop
  | .normal, _, B => KeepsOthers A B ∧ Kp A B ∧ I xs B
  | .ret, _, B => KeepsOthers A B ∧ Ix .ret xs B
  | .exit id, _, B => KeepsOthers A B ∧ Ix (.exit id) xs B
  | .goto t, _, B => KeepsOthers A B ∧ Ix (.goto t) xs B
  | _, _, _ => False

theorem range_pairs {α : Type} {P : Program} {g : Operand} {ps : Array Tmp} {assign body : Code} {Q : Exit → Act → World → Prop} {a : Act} {w : World}
    {gf : Nat} {fst lb : Array Value} (hg : a.eval g = .func (.func gf) fst lb) (eg : ∀ args w, (callFunc gf args).run P w = .ok (.enter gf args) w)
    {encs : α → Array Value} {Kp : World → World → Prop} {xs : List α} (hseq : SeqP P gf fst lb encs Kp xs w)
    (hKt : ∀ {A B C : World}, Kp A B → Kp B C → Kp A C) (hKb : ∀ (A : World) (l : Nat) (o o' : Obj), w.heap.size ≤ l → A.heap[l]? = some o → o.isCells = false → Kp A (A.putObj l o')) (hKa : ∀ {A B : World}, Below A.heap.size A B → Kp A B) (hps : ∀ x, (encs x).size = ps.size)
    (I : List α → World → Prop) (Ix : Code → List α → World → Prop) (hI : OwnFrom w.heap.size I) (hIx : ∀ c, OwnFrom w.heap.size (Ix c)) (hIb : ∀ pre A B, I pre A → Below A.heap.size A B → I pre B) (h0 : I [] w) (Ax : List α → α → Act → World → Prop) (hAx : ∀ pre x a' A (l : Nat) (o o' : Obj), w.heap.size ≤ l → A.heap[l]? = some o → o.isCells = false → Ax pre x a' A → Ax pre x a' (A.putObj l o'))
    (hassign : ∀ (l : Nat) (pre : List α) (x : α) (A : World) (K : Act → World → Prop), (pre ++ [x]) <+: xs → I pre A → (∀ a' A', Ax pre x a' A' → Below A.heap.size A A' → K a' A') →
      assign.wpIn (Fence.wide.inRound l) 0 P (Exit.then K (fun _ _ _ => False)) { tmps := (ps.zip (encs x)).foldl (fun t (p, v) => t.setIfInBounds p v) a.tmps, defers := [] } A)
    (hbody : ∀ (l : Nat) (pre : List α) (x : α) (a' : Act) (A : World), (pre ++ [x]) <+: xs → Ax pre x a' A → body.wpIn (Fence.wide.inRound l) 0 P (roundEnd Kp I Ix (pre ++ [x]) A) a' A)
    (hdone : ∀ (D : Nat) (A : World), w.heap.size ≤ D → I xs A → A.heap[D]? = some (.deferred (some [])) → Q .normal { a with defers := { target := .collected D, args := #[] } :: a.defers } A)
    (hstop : ∀ (D : Nat) (c : Code) (pre : List α) (A : World), w.heap.size ≤ D → pre <+: xs → Ix c pre A → A.heap[D]? = some (.deferred (some [])) → c.wpIn Fence.wide 0 P Q { a with defers := { target := .collected D, args := #[] } :: a.defers } A) :
    (Code.rangeFunc g ps assign body).wpIn Fence.wide 0 P Q a w := by
  refine wpIn_rangeFunc fun fn hfn => ?_
  -- the loop's record, and the two blocks of book-keeping: D for the rounds' deferred calls, D + 1 for the record
  obtain ⟨rec, hrec⟩ : ∃ rec : LoopState → Option Code → Loop, rec = fun st pe => { state := st, pending := pe, fn, tmps := a.tmps, params := ps, assign, body, defers := w.heap.size } := ⟨_, rfl⟩
  obtain ⟨D, hD⟩ : ∃ D, D = w.heap.size := ⟨_, rfl⟩
  let Two : Option Code → LoopState → World → Prop := fun pe st A => A.heap[D + 1]? = some (.loop (rec st pe)) ∧ A.heap[D]? = some (.deferred (some []))
  have two_put : ∀ {A : World} {pe pe' : Option Code} {st st' : LoopState}, Two pe st A → Two pe' st' (A.putObj (D + 1) (.loop (rec st' pe'))) := fun h =>
    ⟨World.putObj_heap_same (Array.getElem?_eq_some_iff.1 h.1).1, (World.putObj_heap_other (by omega)).trans h.2⟩
  have two_keep : ∀ {A B : World} {pe : Option Code} {st : LoopState}, Two pe st A → KeepsOthers A B → Two pe st B := fun h k => ⟨k.same _ _ h.1 rfl, k.same _ _ h.2 rfl⟩
  have two_step : ∀ {A B : World} {pe : Option Code} {st : LoopState}, Two pe st A → Below A.heap.size A B → Two pe st B := fun h k => ⟨(k.block _ (Array.getElem?_eq_some_iff.1 h.1).1).trans h.1, (k.block _ (Array.getElem?_eq_some_iff.1 h.2).1).trans h.2⟩
  have hbusy : (LoopState.ready : LoopState) ≠ .busy := by decide
  have hdone' : (LoopState.done : LoopState) ≠ .busy := by decide
  obtain ⟨W1, hW1⟩ : ∃ W1, (w.alloc (.deferred (some []))).alloc (.loop (rec .ready none)) = W1 := ⟨_, rfl⟩
  have hT : Two none .ready W1 := by
    subst hW1
    refine ⟨?_, ?_⟩
    · have := World.alloc_heap_new (w.alloc (.deferred (some []))) (.loop (rec .ready none))
      rw [World.size_alloc] at this
      rw [hD]; exact this
    · rw [hD, Below.heap_alloc _ _ _ (by simp)]; exact World.alloc_heap_new w _
  have hI1 : I [] W1 := by subst hW1; exact hI.alloc _ (hI.alloc _ h0)
  have hb1 : Below w.heap.size w W1 := by subst hW1; exact ((Below.refl _ w).alloc (Nat.le_refl _) _).alloc (by simp) _
  refine ⟨w.heap.size + 1, [{ target := .collected w.heap.size, args := #[] }], W1, { target := .fn (.func gf) lb, args := fst ++ #[.func (.yield (w.heap.size + 1)) #[] #[]] }, W1, gf,
    fst ++ #[.func (.yield (w.heap.size + 1)) #[] #[]] ++ lb, W1, ?_, ?_, fun f' _ => trivial, ?_, fun h => by simp [Fence.wide] at h, ?_⟩
  · show (Instr.enterLoop fn a.tmps ps assign body none).run P w = _
    rw [← hW1, hrec]; exact run_enterLoop_outer _ _ _ _ _
  · simp only [resolve, hg]
    simp [go_sem]
  · simp [invoke, go_sem, eg]
  rw [← hD]
  refine (hseq (D + 1) (fun pre A => I pre A ∧ Two none .ready A) (fun pre A => ∃ c, Ix c pre A ∧ Two (some c) .done A) W1 hb1
    (fun pre A B h k => ⟨hIb pre A B h.1 k, two_step h.2 k⟩) ?_ ⟨hI1, hT⟩).mono ?_
  · rintro pre x A hpre ⟨hi, ht⟩
    have hy := run_yield (P := P) (args := encs x) ht.1 (by rw [hrec]; exact hps x)
    refine ⟨_, _, _, _, hy, roundIn_of_wpIn trivial ?_⟩
    have ha := hassign (D + 1) pre x A
    rw [hrec]
    refine ha _ hpre hi fun a' A' hax hba => ?_
    have htA := two_step ht hba
    refine ⟨_, run_beginRound htA.1 (by rw [hrec]), ?_⟩
    have e1 : ({ rec .ready none with state := LoopState.busy } : Loop) = rec .busy none := by rw [hrec]
    rw [e1]
    have hi2 := hAx pre x a' A' (D + 1) _ (.loop (rec .busy none)) (by omega) htA.1 rfl hax
    have ht2 : Two none .busy (A'.putObj (D + 1) (.loop (rec .busy none))) := two_put htA
    have hk2 := hKt (hKa hba) (hKb A' (D + 1) _ (.loop (rec .busy none)) (by omega) htA.1 rfl)
    have last : ∀ (jump : Option Code) (B : World), Two none .busy B →
        (Instr.endRound (D + 1) jump).run P B = .ok (.bool jump.isNone) (B.putObj (D + 1) (.loop (rec (if jump.isNone then .ready else .done) jump))) := fun jump B h => by
      have := run_endRound (P := P) jump h.1
      rw [this, hrec]
    refine wpIn_mono (hbody (D + 1) pre x a' _ hpre hi2) ?_
    rintro e a3 B hp
    cases e with
    | normal =>
      obtain ⟨k3, kp3, i3⟩ := hp
      have ht3 := two_keep ht2 k3
      exact ⟨_, _, last none B ht3, .inl ⟨rfl, ⟨hI.putObj _ i3 (by omega) ht3.1 rfl, two_put ht3⟩, hKt (hKt hk2 kp3) (hKb _ _ _ _ (by omega) ht3.1 rfl)⟩⟩
    | ret =>
      obtain ⟨k3, i3⟩ := hp
      have ht3 := two_keep ht2 k3
      exact ⟨_, _, last (some .ret) B ht3, .inr ⟨rfl, .ret, (hIx _).putObj _ i3 (by omega) ht3.1 rfl, two_put ht3⟩⟩
    | exit id =>
      obtain ⟨k3, i3⟩ := hp
      have ht3 := two_keep ht2 k3
      exact ⟨_, _, last (some (.exit id)) B ht3, .inr ⟨rfl, .exit id, (hIx _).putObj _ i3 (by omega) ht3.1 rfl, two_put ht3⟩⟩
    | goto t =>
      obtain ⟨k3, i3⟩ := hp
      have ht3 := two_keep ht2 k3
      exact ⟨_, _, last (some (.goto t)) B ht3, .inr ⟨rfl, .goto t, (hIx _).putObj _ i3 (by omega) ht3.1 rfl, two_put ht3⟩⟩
    | panic ch => exact hp.elim
    | outgrown => exact hp.elim
  · rintro e B ⟨⟨v, rfl⟩, ⟨hi, ht⟩ | ⟨pre, hpre, c, hi, ht⟩⟩
    · refine ⟨none, _, (by have := run_endLoop (P := P) ht.1 (by rw [hrec]; exact hbusy); rw [this, hrec]), ?_⟩
      exact hdone D _ (by omega) (hI.putObj _ hi (by omega) ht.1 rfl) ((World.putObj_heap_other (by omega)).trans ht.2)
    · refine ⟨some c, _, (by have := run_endLoop (P := P) ht.1 (by rw [hrec]; exact hdone'); rw [this, hrec]), ?_⟩
      exact hstop D c pre _ (by omega) hpre ((hIx c).putObj _ hi (by omega) ht.1 rfl) ((World.putObj_heap_other (by omega)).trans ht.2)


/-- Blocks of cells stay as they are, but for some. -/
def KeepsBut (S : Nat → Prop) (A B : World) : Prop := A.heap.size ≤ B.heap.size ∧ ∀ k o, A.heap[k]? = some o → o.isCells = true → ¬ S k → B.heap[k]? = some o
theorem keepsBut_t {S : Nat → Prop} {A B C : World} (h : KeepsBut S A B) (k : KeepsBut S B C) : KeepsBut S A C := ⟨Nat.le_trans h.1 k.1, fun j o h1 h2 h3 => k.2 j o (h.2 j o h1 h2 h3) h2 h3⟩
theorem keepsBut_b {S : Nat → Prop} {w : World} (A : World) (l : Nat) (o o' : Obj) (_ : w.heap.size ≤ l) (h : A.heap[l]? = some o) (hc : o.isCells = false) : KeepsBut S A (A.putObj l o') :=
  ⟨by simp [World.putObj], fun k q h1 h2 _ => by
    by_cases e : k = l
    · subst e; rw [h] at h1; injection h1 with h1; subst h1; rw [hc] at h2; cases h2
    · exact (World.putObj_heap_other e).trans h1⟩
theorem keepsBut_below {S : Nat → Prop} {A B : World} (h : Below A.heap.size A B) : KeepsBut S A B := ⟨h.size, fun k o h1 _ _ => (h.block k (Array.getElem?_eq_some_iff.1 h1).1).trans h1⟩
theorem keepsBut_refl {S : Nat → Prop} (A : World) : KeepsBut S A A := ⟨Nat.le_refl _, fun _ _ h _ _ => h⟩
theorem keepsBut_grown {S : Nat → Prop} {A B : World} {b : Nat} (h : A.grownBy B (some b)) (hS : S b) : KeepsBut S A B := ⟨h.size, fun k o h1 _ h3 => (h.block k (Array.getElem?_eq_some_iff.1 h1).1 (fun e => by injection e with e; exact h3 (by rw [e]; exact hS))).trans h1⟩

/-- A round that turns cells of some blocks alone. -/
def StepB (S : Nat → Prop) (A B : World) : Prop := A.heap.size ≤ B.heap.size ∧ ∀ k o, A.heap[k]? = some o → ¬ (S k ∧ o.isCells = true) → B.heap[k]? = some o
theorem StepB.trans {S : Nat → Prop} {A B C : World} (h : StepB S A B) (k : StepB S B C) : StepB S A C := ⟨Nat.le_trans h.1 k.1, fun j o h1 h2 => k.2 j o (h.2 j o h1 h2) h2⟩
theorem stepB_refl {S : Nat → Prop} (A : World) : StepB S A A := ⟨Nat.le_refl _, fun _ _ h _ => h⟩
theorem stepB_below {S : Nat → Prop} {A B : World} (h : Below A.heap.size A B) : StepB S A B := ⟨h.size, fun k o h1 _ => (h.block k (Array.getElem?_eq_some_iff.1 h1).1).trans h1⟩
theorem StepB.keeps {S : Nat → Prop} {A B : World} (h : StepB S A B) : KeepsOthers A B ∧ KeepsBut S A B :=
  ⟨⟨h.1, fun k o h1 h2 => h.2 k o h1 (fun q => by rw [h2] at q; cases q.2)⟩, h.1, fun k o h1 _ h3 => h.2 k o h1 fun q => h3 q.1⟩

end Go.Proofs.Ytblidmkkbcobgaa
