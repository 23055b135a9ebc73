/- A map from mutual positions to numbers that the call has made, read as a function: the laws of make, store, look-up. -/
import Derived.Test.YtdbpbmejgdbppaaCsM
import Derived.Test.YtdbpbmejgdbppaaLgZ
import Derived.DeepKeys4
import Derived.DeepKeys5
import Derived.WideKeyEntry
import Derived.Test.YtdbpbmejgdbppaaRegInv
set_option linter.unusedSimpArgs false
set_option linter.unusedVariables false
namespace Go.Proofs.Ytdbpbmejgdbppaa
open Go.RowKit Go.Lib Go.Proofs Go.Maps Go.ChangeMaps Go.MapKept

structure Sd where
  acct : Int
  ent : Int
  par : Int
  ref : Int
deriving DecidableEq
def sdC (s : Sd) : Value := .agg #[.int .i64 s.acct, .int .i64 s.ent, .int .i64 s.par, .int .i64 s.ref]
def sdL (s : Sd) : List Lit := [.int .i64 s.acct, .int .i64 s.ent, .int .i64 s.par, .int .i64 s.ref]
def sdK (s : Sd) : Lit := .string (keyBytes (sdL s))
def in64 (x : Int) : Prop := -9223372036854775808 ≤ x ∧ x ≤ 9223372036854775807
structure Sd.In (s : Sd) : Prop where
  acct : in64 s.acct
  ent : in64 s.ent
  par : in64 s.par
  ref : in64 s.ref
theorem in64.wf {x : Int} (h : in64 x) : (Lit.int .i64 x).wf = true := wf64 h.1 h.2
theorem Try.laidOutS : laidOutB Try.prog = true := by kernel_rfl
theorem Try.rowS : (68 : TypeId) < Try.prog.types.size := of_decide_eq_true (by kernel_rfl)
theorem Try.wideS : (match Try.prog.underlying 68 with | some (.array _ _) | some (.struct _) => true | _ => false) = true := by rw [Try.underlying68]
set_option maxRecDepth 100000 in
theorem Try.lawS : WideMaps.KeyLaw Try.prog 68 := deep_law_laid Try.laidOutS (m := 2) (by omega) Try.rowS (by kernel_rfl) Try.wideS
theorem Try.keyedS : Keyed Try.prog 68 := Keyed.of_law Try.lawS
theorem Try.cellsS : Try.prog.cellsOf 68 = 4 := by kernel_rfl
theorem Try.cellsZ : Try.prog.cellsOf 3 = 1 := by kernel_rfl
theorem Try.keyTypeS : Try.prog.keyType 68 = true := by kernel_rfl
theorem Try.sizeS : ∃ m, Try.prog.types.size + 1 = m + 2 := ⟨Try.prog.types.size - 1, by have h : (68 : Nat) < Try.prog.types.size := Try.rowS; omega⟩
theorem keyS {s : Sd} (h : s.In) : keyOf Try.prog 68 (sdC s) = some (sdK s) := by
  have w1 := h.acct.wf
  have w2 := h.ent.wf
  have w3 := h.par.wf
  have w4 := h.ref.wf
  obtain ⟨m, hm⟩ := Try.sizeS
  unfold keyOf sdC
  simp only [Try.underlying68]
  rw [if_pos (by simp [Try.keyTypeS, Value.formed, Try.underlying68, Try.cellsS]), hm]
  unfold Program.keyLits
  simp only [Try.underlying68, Value.cells]
  rw [if_pos (by simp [Try.cellsS])]
  simp [Program.keyLits, Try.underlying3, Try.cellsZ, w1, w2, w3, w4, sdK, sdL]
theorem keyLitS (s : Sd) : WideAt.IsKeyLit (sdK s) := by simp [WideAt.IsKeyLit, sdK]
theorem sdK_ne {s t : Sd} (hs : s.In) (ht : t.In) (h : s ≠ t) : sdK s ≠ sdK t := fun e => h (by
  have e2 : keyBytes (sdL s) = keyBytes (sdL t) := by injection e
  have e3 := Go.keyBytes_inj (by simp [sdL, Alike, Lit.sameKind]) (by simp [sdL, Lit.keyWf, hs.acct.wf, hs.ent.wf, hs.par.wf, hs.ref.wf]) (by simp [sdL, Lit.keyWf, ht.acct.wf, ht.ent.wf, ht.par.wf, ht.ref.wf]) e2
  obtain ⟨a, b, c, d⟩ := s
  obtain ⟨a', b', c', d'⟩ := t
  simp [sdL] at e3
  obtain ⟨rfl, rfl, rfl, rfl⟩ := e3
  rfl)

/-- Block b is a map of at most n entries that answers g. -/
def MapS (w : World) (b n : Nat) (g : Sd → Int) : Prop :=
  ∃ D : DataW Unit, w.ownsMap Try.prog 68 (plainElem Try.prog 3) b n D ∧ ∀ s : Sd, s.In → D.atKey (sdK s) (.lit (.int .i64 0)) = .lit (.int .i64 (g s))
theorem MapS.lt {w : World} {b n : Nat} {g : Sd → Int} (h : MapS w b n g) : b < w.heap.size := by obtain ⟨D, h1, _⟩ := h; exact h1.lt
theorem MapS.kept {w w' : World} {b n : Nat} {g : Sd → Int} {row : Option Nat} (h : MapS w b n g) (hg : w.grownBy w' row) (hne : some b ≠ row) : MapS w' b n g := by
  obtain ⟨D, h1, h2⟩ := h; exact ⟨D, h1.kept hg hne, h2⟩
theorem MapS.below {w w' : World} {b n : Nat} {g : Sd → Int} (h : MapS w b n g) (hb : Below w.heap.size w w') : MapS w' b n g := h.kept (grownBy_below (row := none) hb) (by simp)
theorem MapS.made (w : World) : MapS (w.alloc (.map #[] 0)) w.heap.size 0 (fun _ => 0) :=
  ⟨.map [], World.ownsMap_made w _ _ _, fun _ _ => rfl⟩
theorem MapS.congr {w : World} {b n : Nat} {f g : Sd → Int} (h : MapS w b n f) (hfg : ∀ x, f x = g x) : MapS w b n g := by
  obtain ⟨D, h1, h2⟩ := h; exact ⟨D, h1, fun x hx => by rw [h2 x hx, hfg]⟩
theorem MapS.mono {w : World} {b n m : Nat} {g : Sd → Int} (h : MapS w b n g) (hnm : n ≤ m) : MapS w b m g := by
  obtain ⟨D, ⟨es, clock, hb, F, hs, rfl⟩, h2⟩ := h
  exact ⟨_, ⟨es, clock, hb, F, Nat.le_trans hs hnm, rfl⟩, h2⟩
theorem MapS.same {w w' : World} {b n : Nat} {g : Sd → Int} (h : MapS w b n g) (he : w'.heap[b]? = w.heap[b]?) : MapS w' b n g := by
  obtain ⟨D, ⟨es, clock, hb, F, hs, rfl⟩, h2⟩ := h
  exact ⟨_, ⟨es, clock, he.trans hb, F, hs, rfl⟩, h2⟩
theorem MapS.noCells {w : World} {b n : Nat} {g : Sd → Int} (h : MapS w b n g) {cs : Array Value} {T : TypeId} {o : Nat × Nat} : w.heap[b]? ≠ some (.cells cs T o) := by
  obtain ⟨D, ⟨es, clock, hb, F, hs, rfl⟩, h2⟩ := h
  rw [hb]; simp

theorem wpList_store_S {w : World} {ops : Array Oper} {rest : List Oper} {o : Oper} {a : Act} {Q : Exit → Act → World → Prop}
    (hg : o.guard = none) (m x v : Operand) (hop : o.op = Op.mapUpdate 65 m x v) (b n : Nat) (g : Sd → Int) (hm : a.eval m = .map (some b)) (hown : MapS w b n g) (hn : n < maxLen)
    (k : Sd) (y : Int) (hx : a.eval x = sdC k) (hv : a.eval v = .int .i64 y) (hk : k.In) (hy : in64 y) (e : Sd → Int) (he : ∀ t, t ≠ k → e t = g t) (hek : e k = y)
    (hK : ∀ w', MapS w' b (n + 1) e → w.grownBy w' (some b) → wpList Try.prog ops Q rest (a.put o.dst undef) w') :
    wpList Try.prog ops Q (o :: rest) a w := by
  obtain ⟨D, h1, h2⟩ := hown
  have hD := h1.isMap
  refine wpList_mapUpdate_own w hg m x v _ hop _ _ Try.keyedS Try.underlying65 _ b n D hm h1 hn _ _ _ hx hv (keyS hk) _ [] (plainElem_int Try.underlying3 hy.wf) fun w' g1 g2 => ?_
  refine hK w' ⟨_, g1, fun t ht => ?_⟩ g2
  by_cases hq : t = k
  · subst hq
    rw [atKey_put_same hD (keyLitS t), hek]
  · rw [atKey_put_other (sdK_ne ht hk hq), h2 t ht, he t hq]

/-- The look-up at the operation. -/
theorem wpList_look_S {w : World} {ops : Array Oper} {rest : List Oper} {o : Oper} {a : Act} {Q : Exit → Act → World → Prop}
    (hg : o.guard = none) (m x : Operand) (hop : o.op = Op.lookup 65 m x false) (b n : Nat) (g : Sd → Int) (hm : a.eval m = .map (some b)) (hown : MapS w b n g)
    (k : Sd) (hx : a.eval x = sdC k) (hk : k.In)
    (hK : wpList Try.prog ops Q rest (a.put o.dst (.int .i64 (g k))) w) :
    wpList Try.prog ops Q (o :: rest) a w := by
  obtain ⟨D, h1, h2⟩ := hown
  refine wpList_lookup_own_int w hg m x 65 hop _ _ .i64 Try.keyedS Try.underlying65 Try.underlying3 (Try.zeroZ w) b n D hm h1 _ _ hx (keyS hk) fun c hc _ => ?_
  have hcg : c = g k := by
    have e := hc.symm.trans (h2 k hk)
    simp only [DataW.lit.injEq, Lit.int.injEq, true_and] at e
    exact e
  rw [hcg]
  exact hK

/-- What an entry that was made ahead of its store waits for. -/
def EntS (W : World) (b n : Nat) (g : Sd → Int) (k : Sd) (st : Int) : Prop :=
  ∃ es clock, W.heap[b]? = some (.map es clock) ∧ ∀ V : World, V.heap[b]? = some (.map es clock) → ∀ (y : Int) (e : Sd → Int), in64 y → (∀ t, t ≠ k → e t = g t) → e k = y → ∃ W', (Instr.entryStore 65 (.map (some b)) (goInt st) (.int .i64 y)).run Try.prog V = .ok () W' ∧ MapS W' b (n + 1) e ∧ V.grownBy W' (some b)
theorem EntS.below {A B : World} {b n : Nat} {g : Sd → Int} {k : Sd} {st : Int} (h : EntS A b n g k st) (hb : Below A.heap.size A B) : EntS B b n g k st := by
  obtain ⟨es, clock, h1, h2⟩ := h
  exact ⟨es, clock, (hb.block b (Array.getElem?_eq_some_iff.1 h1).1).trans h1, h2⟩
theorem look_S {w : World} {b n : Nat} {g : Sd → Int} (hown : MapS w b n g) {k : Sd} (hk : k.In) : (Instr.lookup 65 (.map (some b)) (sdC k) false).run Try.prog w = .ok (.int .i64 (g k)) w := by
  obtain ⟨D, h1, h2⟩ := hown
  obtain ⟨c, hrun, hat, hwc⟩ := h1.lookup_int Try.keyedS Try.underlying65 Try.underlying3 (Try.zeroZ w) (keyS hk)
  have hcg : c = g k := by
    have e := hat.symm.trans (h2 k hk)
    simp only [DataW.lit.injEq, Lit.int.injEq, true_and] at e
    exact e
  rw [hrun, hcg]
theorem entry_S {W : World} {b n : Nat} {g : Sd → Int} {k : Sd} (hown : MapS W b n g) (hn : n < maxLen) (hk : k.In) : ∃ (v0 : Value) (st : Int) (W1 : World), (Instr.mapEntry 65 (.map (some b)) (sdC k)).run Try.prog W = .ok (.tuple #[v0, goInt st]) W1 ∧ EntS W1 b n g k st ∧ MapS W1 b (n + 1) g ∧ W.grownBy W1 (some b) := by
  obtain ⟨D, h1, h2⟩ := hown
  have hD := h1.isMap
  have h1' := h1
  obtain ⟨es, clock, hb, F, hs, rfl⟩ := h1'
  obtain ⟨v0, st, es1, clock1, hrun, hv0, hst⟩ := WideElems.entry_then_store Try.lawS Try.underlying65 (z := .int .i64 0) (fun u => Try.zeroZ u) hb F (keyS hk)
  have hb1 := heap_setBlock_same hb (.map es1 clock1)
  have hkey : ∀ V : World, V.heap[b]? = some (.map es1 clock1) → ∀ (y : Int) (e : Sd → Int), in64 y → (∀ t, t ≠ k → e t = g t) → e k = y → ∃ W', (Instr.entryStore 65 (.map (some b)) (goInt st) (.int .i64 y)).run Try.prog V = .ok () W' ∧ MapS W' b (n + 1) e ∧ V.grownBy W' (some b) := fun V hV y e hy he hek => by
    obtain ⟨es', clock', hr1, hr2⟩ := hst V (.int .i64 y) hV
    obtain ⟨w', hu, g1, g2⟩ := h1.update Try.keyedS Try.underlying65 hn (keyS hk) (plainElem_int Try.underlying3 hy.wf)
    rw [hr2] at hu
    injection hu with _ hu
    refine ⟨_, hr1, ?_, ⟨rfl, rfl, rfl, by simp [setBlock], fun i _ hi => heap_setBlock_other hV _ (fun e => hi (by rw [e]))⟩⟩
    have hm : MapS w' b (n + 1) e := ⟨_, g1, fun t ht => by
      by_cases hq : t = k
      · subst hq
        rw [atKey_put_same hD (keyLitS t), hek]
      · rw [atKey_put_other (sdK_ne ht hk hq), h2 t ht, he t hq]⟩
    refine hm.same ?_
    rw [← hu, heap_setBlock_same hV _, heap_setBlock_same hb _]
  refine ⟨v0, st, _, hrun, ⟨es1, clock1, hb1, hkey⟩, ?_, ⟨rfl, rfl, rfl, by simp [setBlock], fun i _ hi => heap_setBlock_other hb _ (fun e => hi (by rw [e]))⟩⟩
  have hown : MapS W b n g := ⟨_, h1, h2⟩
  have hlk := look_S hown hk
  rcases Try.keyedS.find W (keyS hk) es.toList F.keys with ⟨f1, f2⟩ | ⟨j, e0, f1, f2, f3⟩
  · have e1 : (Instr.mapEntry 65 (.map (some b)) (sdC k)).run Try.prog W = .ok (.tuple #[.int .i64 0, goInt clock]) (setBlock W b (.map (es.push ⟨sdC k, .int .i64 0, clock⟩) (clock + 1))) := by
      simp [Instr.mapEntry, run_underlying Try.underlying65, MapKept.run_getObj_map hb, Try.keyedS.check W false (keyS hk), f1, Try.zeroZ, MapKept.run_setObj_map _ hb, Result.andThen, setBlock]
    rw [hrun] at e1
    injection e1 with _ e1
    obtain ⟨w', hu, g1, g2⟩ := h1.update Try.keyedS Try.underlying65 hn (keyS hk) (plainElem_int Try.underlying3 (in64.wf (x := 0) ⟨by omega, by omega⟩))
    have e2 : (Instr.mapUpdate 65 (.map (some b)) (sdC k) (.int .i64 0)).run Try.prog W = .ok () (setBlock W b (.map (es.push ⟨sdC k, .int .i64 0, clock⟩) (clock + 1))) := by
      simp [Instr.mapUpdate, run_underlying Try.underlying65, MapKept.run_getObj_map hb, Try.keyedS.check W false (keyS hk), f1, MapKept.run_setObj_map _ hb, Result.andThen, setBlock]
    rw [e2] at hu
    injection hu with _ hu
    have e3 : (Instr.lookup 65 (.map (some b)) (sdC k) false).run Try.prog W = .ok (.int .i64 0) W := by
      simp [Instr.lookup, run_underlying Try.underlying65, MapKept.run_getObj_map hb, Try.keyedS.check W es.isEmpty (keyS hk), Try.keyedS.check W _ (keyS hk), f1, Try.zeroZ, Result.andThen]
    rw [hlk] at e3
    have hg0 : g k = 0 := by simpa using e3
    rw [e1, hu]
    refine ⟨_, g1, fun t ht => ?_⟩
    by_cases hq : t = k
    · subst hq
      rw [atKey_put_same hD (keyLitS t), hg0]
    · rw [atKey_put_other (sdK_ne ht hk hq), h2 t ht]
  · have hsame : es.modify j (fun e => { e with key := sdC k }) = es := by
      apply Array.ext'
      rw [Array.toList_modify, modify_eq_set _ _ _ _ f2]
      have : ({ e0 with key := sdC k } : MapEntry) = e0 := by rw [← f3]
      rw [this]
      exact WideElems.set_self _ _ _ f2
    have hj : es[j]? = some e0 := by simpa using f2
    have e1 : (Instr.mapEntry 65 (.map (some b)) (sdC k)).run Try.prog W = .ok (.tuple #[e0.val, goInt e0.born]) (setBlock W b (.map es clock)) := by
      simp [Instr.mapEntry, run_underlying Try.underlying65, MapKept.run_getObj_map hb, Try.keyedS.check W false (keyS hk), f1, hj, f3, Try.keyedS.stays W (keyS hk), hsame, MapKept.run_setObj_map _ hb, Result.andThen, setBlock]
    rw [hrun] at e1
    injection e1 with _ e1
    rw [e1]
    exact (hown.same (by rw [heap_setBlock_same hb, hb])).mono (by omega)
section
variable {ops : Array Oper} {Q : Exit → Act → World → Prop}
theorem wpOp_entryS {i : Nat} {o : Oper} {a : Act} {w : World} {K : Act → World → Prop} (ho : ops[i]? = some o) (hg : o.guard = none) (m x : Operand) (hop : o.op = Op.mapEntry 65 m x) (b n : Nat) (g : Sd → Int) (k : Sd) (hm : a.eval m = .map (some b)) (hx : a.eval x = sdC k) (hown : MapS w b n g) (hn : n < maxLen) (hk : k.In)
    (hK : ∀ v0 st W1, EntS W1 b n g k st → MapS W1 b (n + 1) g → w.grownBy W1 (some b) → K (a.put o.dst (.tuple #[v0, goInt st])) W1) : wpOp Try.prog ops Q i K a w := by
  obtain ⟨v0, st, W1, h1, h2, h3, h4⟩ := entry_S hown hn hk
  exact wpOp_val ho hg (v := .tuple #[v0, goInt st]) (w' := W1) (by simp [execOp, hop, hm, hx, h1, Result.andThen]) (hK v0 st W1 h2 h3 h4)
theorem wpOp_estoreS {i : Nat} {o : Oper} {a : Act} {w : World} {K : Act → World → Prop} (ho : ops[i]? = some o) (hg : o.guard = none) (m s x : Operand) (hop : o.op = Op.entryStore 65 m s x) (b n : Nat) (g : Sd → Int) (k : Sd) (st : Int) (y : Int) (hm : a.eval m = .map (some b)) (hs : a.eval s = goInt st) (hx : a.eval x = .int .i64 y) (hE : EntS w b n g k st) (hy : in64 y) (e : Sd → Int) (he : ∀ t, t ≠ k → e t = g t) (hek : e k = y)
    (hK : ∀ W1, MapS W1 b (n + 1) e → w.grownBy W1 (some b) → K (a.put o.dst undef) W1) : wpOp Try.prog ops Q i K a w := by
  obtain ⟨es, clock, h0, hE⟩ := hE
  obtain ⟨W1, h1, h2, h3⟩ := hE w h0 y e hy he hek
  exact wpOp_skip ho hg (w' := W1) (by simp [execOp, hop, hm, hs, hx, h1, Result.andThen]) (hK W1 h2 h3)
end

end Go.Proofs.Ytdbpbmejgdbppaa
