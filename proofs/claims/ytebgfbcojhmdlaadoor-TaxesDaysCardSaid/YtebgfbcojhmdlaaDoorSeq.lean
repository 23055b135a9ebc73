/- The statement 'for x := range seq' where the iterator keeps its place in a cell of its own (strings.SplitSeq, strings.Lines): what such an iterator promises, and what a loop over it then does; of no function of the program; no condition. -/
import Derived.Test.YtebgfbcojhmdlaaDoorBase
import Derived.RangeFuncBox
import Derived.RangeFuncLeaves
import Derived.RangeFuncCalls
import Derived.RangeFuncBound
import Derived.Shelf.Abstract
import Derived.OwnWalkIn
import Derived.TacticsInMore
import Derived.LoopNIn
import Derived.LoopIn
namespace Go.Proofs.YtebgfbcojhmdlaaDoor
open Go.RowKit Go.Lib Go.Proofs

/-- The iterator g (with what it has captured, lb) hands on xs in order, each as one value, until a round says no; between two rounds it turns its own block b alone, and makes new ones. What it asks of a round that goes on is Kp. -/
def SeqCell {α : Type} (P : Program) (g : Nat) (lb : Array Value) (enc : α → Value) (b : Nat) (Kp : World → World → Prop) (xs : List α) (w : World) : Prop :=
  ∀ (l : Nat) (J Jx : List α → World → Prop) (W : World), Below w.heap.size w W →
    (∀ pre A B, J pre A → A.grownBy B (some b) → J pre B) →
    (∀ pre x A, (pre ++ [x]) <+: xs → J pre A → YieldAt Fence.wide 0 P l #[enc x] A fun e B => (e = .returned (.bool true) ∧ J (pre ++ [x]) B ∧ Kp A B) ∨ (e = .returned (.bool false) ∧ Jx (pre ++ [x]) B)) →
    J [] W →
    CallsIn Fence.wide 0 P g (#[.func (.yield l) #[] #[]] ++ lb) W fun e B => (∃ v, e = .returned v) ∧ (J xs B ∨ ∃ pre, pre <+: xs ∧ Jx pre B)

/-- How a round may be left: it goes on, and keeps what the iterator asks; or it leaves. -/
def roundEnd {α : Type} (Kp : World → World → Prop) (I : List α → World → Prop) (Ix : Code → List α → World → Prop) (xs : List α) (A : World) : Exit → Act → World → Prop
  | .normal, _, B => KeepsOthers A B ∧ Kp A B ∧ I xs B
  | .ret, _, B => KeepsOthers A B ∧ Ix .ret xs B
  | .exit id, _, B => KeepsOthers A B ∧ Ix (.exit id) xs B
  | .goto t, _, B => KeepsOthers A B ∧ Ix (.goto t) xs B
  | _, _, _ => False

/-- Blocks stay where one other block turns. -/
theorem stays {A B : World} {b k : Nat} {o : Obj} (hg : A.grownBy B (some b)) (h : A.heap[k]? = some o) (hne : k ≠ b) : B.heap[k]? = some o :=
  (hg.block k (Array.getElem?_eq_some_iff.1 h).1 (by simpa using hne)).trans h

theorem range_cell {α : Type} {P : Program} {g : Operand} {ps : Array Tmp} {assign body : Code} {Q : Exit → Act → World → Prop} {a : Act} {w : World}
    {gf : Nat} {lb : Array Value} (hg : a.eval g = .func (.func gf) #[] lb) (eg : ∀ args w, (callFunc gf args).run P w = .ok (.enter gf args) w)
    {enc : α → Value} {b : Nat} {Kp : World → World → Prop} {xs : List α} (hseq : SeqCell P gf lb enc b Kp xs w) (hb : b < w.heap.size)
    (hKt : ∀ {A B C : World}, Kp A B → Kp B C → Kp A C) (hKb : ∀ (A : World) (l : Nat) (o o' : Obj), w.heap.size ≤ l → A.heap[l]? = some o → o.isCells = false → Kp A (A.putObj l o')) (hps : ps.size = 1)
    (I : List α → World → Prop) (Ix : Code → List α → World → Prop) (hI : OwnFrom w.heap.size I) (hIx : ∀ c, OwnFrom w.heap.size (Ix c)) (hIb : ∀ pre A B, I pre A → A.grownBy B (some b) → I pre B) (h0 : I [] w) (a₁ : α → Act)
    (hassign : ∀ (l : Nat) (x : α) (A : World) (K : Act → World → Prop), K (a₁ x) A →
      assign.wpIn (Fence.wide.inRound l) 0 P (Exit.then K (fun _ _ _ => False)) { tmps := (ps.zip #[enc x]).foldl (fun t (p, v) => t.setIfInBounds p v) a.tmps, defers := [] } A)
    (hbody : ∀ (l : Nat) (pre : List α) (x : α) (A : World), (pre ++ [x]) <+: xs → I pre A → body.wpIn (Fence.wide.inRound l) 0 P (roundEnd Kp I Ix (pre ++ [x]) A) (a₁ x) A)
    (hdone : ∀ (D : Nat) (A : World), w.heap.size ≤ D → I xs A → A.heap[D]? = some (.deferred (some [])) → Q .normal { a with defers := { target := .collected D, args := #[] } :: a.defers } A)
    (hstop : ∀ (D : Nat) (c : Code) (pre : List α) (A : World), w.heap.size ≤ D → pre <+: xs → Ix c pre A → A.heap[D]? = some (.deferred (some [])) → c.wpIn Fence.wide 0 P Q { a with defers := { target := .collected D, args := #[] } :: a.defers } A) :
    (Code.rangeFunc g ps assign body).wpIn Fence.wide 0 P Q a w := by
  refine wpIn_rangeFunc fun fn hfn => ?_
  -- the loop's record, and the two blocks of book-keeping: D for the rounds' deferred calls, D + 1 for the record
  obtain ⟨rec, hrec⟩ : ∃ rec : LoopState → Option Code → Loop, rec = fun st pe => { state := st, pending := pe, fn, tmps := a.tmps, params := ps, assign, body, defers := w.heap.size } := ⟨_, rfl⟩
  obtain ⟨D, hD⟩ : ∃ D, D = w.heap.size := ⟨_, rfl⟩
  let Two : Option Code → LoopState → World → Prop := fun pe st A => A.heap[D + 1]? = some (.loop (rec st pe)) ∧ A.heap[D]? = some (.deferred (some []))
  have two_put : ∀ {A : World} {pe pe' : Option Code} {st st' : LoopState}, Two pe st A → Two pe' st' (A.putObj (D + 1) (.loop (rec st' pe'))) := fun h =>
    ⟨World.putObj_heap_same (Array.getElem?_eq_some_iff.1 h.1).1, (World.putObj_heap_other (by omega)).trans h.2⟩
  have two_keep : ∀ {A B : World} {pe : Option Code} {st : LoopState}, Two pe st A → KeepsOthers A B → Two pe st B := fun h k => ⟨k.same _ _ h.1 rfl, k.same _ _ h.2 rfl⟩
  have two_step : ∀ {A B : World} {pe : Option Code} {st : LoopState}, Two pe st A → A.grownBy B (some b) → Two pe st B := fun h k => ⟨stays k h.1 (by omega), stays k h.2 (by omega)⟩
  have hbusy : (LoopState.ready : LoopState) ≠ .busy := by decide
  have hdone' : (LoopState.done : LoopState) ≠ .busy := by decide
  obtain ⟨W1, hW1⟩ : ∃ W1, (w.alloc (.deferred (some []))).alloc (.loop (rec .ready none)) = W1 := ⟨_, rfl⟩
  have hT : Two none .ready W1 := by
    subst hW1
    refine ⟨?_, ?_⟩
    · have := World.alloc_heap_new (w.alloc (.deferred (some []))) (.loop (rec .ready none))
      rw [World.size_alloc] at this
      rw [hD]; exact this
    · rw [hD, Below.heap_alloc _ _ _ (by simp)]; exact World.alloc_heap_new w _
  have hI1 : I [] W1 := by subst hW1; exact hI.alloc _ (hI.alloc _ h0)
  have hb1 : Below w.heap.size w W1 := by subst hW1; exact ((Below.refl _ w).alloc (Nat.le_refl _) _).alloc (by simp) _
  refine ⟨w.heap.size + 1, [{ target := .collected w.heap.size, args := #[] }], W1, { target := .fn (.func gf) lb, args := #[.func (.yield (w.heap.size + 1)) #[] #[]] }, W1, gf,
    #[.func (.yield (w.heap.size + 1)) #[] #[]] ++ lb, W1, ?_, ?_, fun f' _ => trivial, ?_, fun h => by simp [Fence.wide] at h, ?_⟩
  · show (Instr.enterLoop fn a.tmps ps assign body none).run P w = _
    rw [← hW1, hrec]; exact run_enterLoop_outer _ _ _ _ _
  · simp only [resolve, hg]
    simp [go_sem]
  · simp [invoke, go_sem, eg]
  rw [← hD]
  refine (hseq (D + 1) (fun pre A => I pre A ∧ Two none .ready A) (fun pre A => ∃ c, Ix c pre A ∧ Two (some c) .done A) W1 hb1
    (fun pre A B h k => ⟨hIb pre A B h.1 k, two_step h.2 k⟩) ?_ ⟨hI1, hT⟩).mono ?_
  · rintro pre x A hpre ⟨hi, ht⟩
    have hy := run_yield (P := P) (args := #[enc x]) ht.1 (by rw [hrec]; exact hps.symm)
    refine ⟨_, _, _, _, hy, roundIn_of_wpIn trivial ?_⟩
    have ha := hassign (D + 1) x A
    rw [hrec]
    refine ha _ ⟨_, run_beginRound ht.1 (by rw [hrec]), ?_⟩
    have e1 : ({ rec .ready none with state := LoopState.busy } : Loop) = rec .busy none := by rw [hrec]
    rw [e1]
    have hi2 := hI.putObj (.loop (rec .busy none)) hi (by omega) ht.1 rfl
    have ht2 : Two none .busy (A.putObj (D + 1) (.loop (rec .busy none))) := two_put ht
    have hk2 := hKb A (D + 1) _ (.loop (rec .busy none)) (by omega) ht.1 rfl
    have last : ∀ (jump : Option Code) (B : World), Two none .busy B →
        (Instr.endRound (D + 1) jump).run P B = .ok (.bool jump.isNone) (B.putObj (D + 1) (.loop (rec (if jump.isNone then .ready else .done) jump))) := fun jump B h => by
      have := run_endRound (P := P) jump h.1
      rw [this, hrec]
    refine wpIn_mono (hbody (D + 1) pre x _ hpre hi2) ?_
    rintro e a3 B hp
    cases e with
    | normal =>
      obtain ⟨k3, kp3, i3⟩ := hp
      have ht3 := two_keep ht2 k3
      exact ⟨_, _, last none B ht3, .inl ⟨rfl, ⟨hI.putObj _ i3 (by omega) ht3.1 rfl, two_put ht3⟩, hKt (hKt hk2 kp3) (hKb _ _ _ _ (by omega) ht3.1 rfl)⟩⟩
    | ret =>
      obtain ⟨k3, i3⟩ := hp
      have ht3 := two_keep ht2 k3
      exact ⟨_, _, last (some .ret) B ht3, .inr ⟨rfl, .ret, (hIx _).putObj _ i3 (by omega) ht3.1 rfl, two_put ht3⟩⟩
    | exit id =>
      obtain ⟨k3, i3⟩ := hp
      have ht3 := two_keep ht2 k3
      exact ⟨_, _, last (some (.exit id)) B ht3, .inr ⟨rfl, .exit id, (hIx _).putObj _ i3 (by omega) ht3.1 rfl, two_put ht3⟩⟩
    | goto t =>
      obtain ⟨k3, i3⟩ := hp
      have ht3 := two_keep ht2 k3
      exact ⟨_, _, last (some (.goto t)) B ht3, .inr ⟨rfl, .goto t, (hIx _).putObj _ i3 (by omega) ht3.1 rfl, two_put ht3⟩⟩
    | panic ch => exact hp.elim
    | outgrown => exact hp.elim
  · rintro e B ⟨⟨v, rfl⟩, ⟨hi, ht⟩ | ⟨pre, hpre, c, hi, ht⟩⟩
    · refine ⟨none, _, (by have := run_endLoop (P := P) ht.1 (by rw [hrec]; exact hbusy); rw [this, hrec]), ?_⟩
      exact hdone D _ (by omega) (hI.putObj _ hi (by omega) ht.1 rfl) ((World.putObj_heap_other (by omega)).trans ht.2)
    · refine ⟨some c, _, (by have := run_endLoop (P := P) ht.1 (by rw [hrec]; exact hdone'); rw [this, hrec]), ?_⟩
      exact hstop D c pre _ (by omega) hpre ((hIx c).putObj _ hi (by omega) ht.1 rfl) ((World.putObj_heap_other (by omega)).trans ht.2)

/-- Three blocks stay as they are: what an iterator with three captured variables asks of a round. -/
def KeepsThree (b0 b1 b2 : Nat) (A B : World) : Prop := B.heap[b0]? = A.heap[b0]? ∧ B.heap[b1]? = A.heap[b1]? ∧ B.heap[b2]? = A.heap[b2]?

theorem keepsThree_t {b0 b1 b2 : Nat} {A B C : World} (h : KeepsThree b0 b1 b2 A B) (k : KeepsThree b0 b1 b2 B C) : KeepsThree b0 b1 b2 A C := ⟨k.1.trans h.1, k.2.1.trans h.2.1, k.2.2.trans h.2.2⟩
theorem keepsThree_b {b0 b1 b2 : Nat} {w : World} (h0 : b0 < w.heap.size) (h1 : b1 < w.heap.size) (h2 : b2 < w.heap.size) (A : World) (l : Nat) (o o' : Obj) (hl : w.heap.size ≤ l) (_ : A.heap[l]? = some o) (_ : o.isCells = false) : KeepsThree b0 b1 b2 A (A.putObj l o') :=
  ⟨World.putObj_heap_other (by omega), World.putObj_heap_other (by omega), World.putObj_heap_other (by omega)⟩
theorem keepsThree_of {b0 b1 b2 n₀ : Nat} {A B : World} (h : Below n₀ A B) (h0 : b0 < n₀) (h1 : b1 < n₀) (h2 : b2 < n₀) : KeepsThree b0 b1 b2 A B := ⟨h.block _ h0, h.block _ h1, h.block _ h2⟩

end Go.Proofs.YtebgfbcojhmdlaaDoor
