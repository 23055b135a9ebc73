/- risk.falls of every right register: what falls due in each of some years. -/
import Derived.Test.YtblidmkkbcobgaaMRkH
import Derived.Test.YtblidmkkbcobgaaMG7
import Derived.Shelf.RegionOpen
import Derived.Stop.RegionWithIn
set_option linter.unusedSimpArgs false
set_option linter.unusedVariables false
set_option linter.unusedSimpArgs false
set_option linter.unusedVariables false
namespace Go.Proofs.Ytblidmkkbcobgaa
open Go.RowKit Go.Lib Go.Proofs
attribute [local go_sem] Oper.semAt_some

/-- 'make' of a slice of numbers, within a fence. -/
theorem wpListIn_make_full {F : Fence} {d : Nat} {P : Program} (w : World) {ops : Array Oper} {rest : List Oper} {o : Oper} {a : Act} {Q : Exit → Act → World → Prop}
    (hg : o.guard = none) (l c : Operand) (t : TypeId) (hop : o.op = Op.makeSlice t l c)
    (base : Nat) (e : TypeId) (i : TypeInfo) (z : Value) (size : Nat) (h1 : P.underlying t = some (.slice e)) (h2 : P.info? e = some i) (h3 : i.zero = some z) (h4 : i.size = size)
    (kl kc : IntKind) (L C : Int) (n : Nat) (hl : a.eval l = .int kl L) (hc : a.eval c = .int kc C) (hL : L = (n : Int)) (hC : C = (n : Int)) (b2 : i.bytes * n ≤ 281474976710656) (b3 : n ≤ maxLen) (b4 : base ≤ w.heap.size)
    (hK : ∀ w', w'.ownsRow base e size (.slice (some ⟨w.heap.size, 0, none⟩) n n) n (madeCells z.cells (n * size)).toList → w.grownBy w' none → wpListIn F d P ops Q rest (a.put o.dst (.slice (some ⟨w.heap.size, 0, none⟩) n n)) w') :
    wpListIn F d P ops Q (o :: rest) a w := by
  refine wpListIn_plain hg fun K hK' => ?_
  obtain ⟨w', hrun, r1, r2⟩ := run_make_full (P := P) w base t e i z size h1 h2 h3 h4 kl kc n b2 b3 b4
  subst hL
  subst hC
  unfold Oper.wpIn
  refine ⟨?_, ?_⟩
  · simp [Oper.about, hop]
  · rw [Oper.semAt_plain F _ _ (by rw [hop]; intro c hc'; cases hc')]
    simp [execOp, hop, hl, hc, hrun, Result.andThen]
    exact hK' _ _ (hK w' r1 r2)

theorem cells_stay {A B : World} {row : Option Nat} {k N : Nat} {cs : Array Value} {T : TypeId} (h : A.heap[k]? = some (.cells cs T (0, 0))) (hg : A.grownBy B row) (hr : ∀ r, row = some r → N ≤ r ∧ ∃ o : Obj, A.heap[r]? = some o ∧ o.isCells = false) : B.heap[k]? = some (.cells cs T (0, 0)) :=
  (hg.block k (obj_lt h) (fun e => by obtain ⟨_, o, ho, hc⟩ := hr k (by first | exact e | exact e.symm); rw [h] at ho; cases ho; cases hc)).trans h
/-- A row of numbers of the call's own, as its block. -/
theorem row_heap {w : World} {base g n : Nat} {e : TypeId} {xs : List Value} (h : w.ownsRow base e 1 (.slice (some ⟨g, 0, none⟩) n n) n xs) : w.heap[g]? = some (.cells xs.toArray e (0, 0)) ∧ base ≤ g := by
  obtain ⟨h1, h2 | ⟨g', cap, cur, hv, hb, hh, _, _, hs, ht⟩⟩ := h
  · cases h2.1
  · injection hv with e1 e2 e3
    injection e1 with e1
    injection e1 with e1
    subst e1 e3
    refine ⟨?_, hb⟩
    rw [hh]
    have : cur.toList = xs := by rw [← ht, List.take_of_length_le (by rw [Array.length_toList, hs]; omega)]
    rw [← this]
theorem heap_row {w : World} {base g n : Nat} {e : TypeId} {xs : List Value} (h : w.heap[g]? = some (.cells xs.toArray e (0, 0))) (hb : base ≤ g) (hl : xs.length = n) (hn : n ≤ maxLen) : w.ownsRow base e 1 (.slice (some ⟨g, 0, none⟩) n n) n xs :=
  ⟨by omega, Or.inr ⟨g, n, _, rfl, hb, h, Nat.le_refl _, hn, by simpa using hl, by rw [Nat.mul_one, ← hl]; simp⟩⟩

/-- What falls due in each of n years, of some holdings. -/
def fallsP (secs : List Sec) (first : Int) (n : Nat) (pre : List Hld) : List Int := (List.range n).map fun (k : Nat) => sumH (fun h => dueY secs h == first + (k : Int)) pre
theorem fallsP_len (secs : List Sec) (first : Int) (n : Nat) (pre : List Hld) : (fallsP secs first n pre).length = n := by simp [fallsP]
theorem fallsP_all (r : Reg) (first : Int) (n : Nat) : fallsP r.secs first n r.hs = fallsL r first n := rfl
theorem fallsP_get (secs : List Sec) (first : Int) (n : Nat) (pre : List Hld) (k : Nat) (h : k < n) : (fallsP secs first n pre).getD k 0 = sumH (fun h => dueY secs h == first + (k : Int)) pre := by
  simp [fallsP, List.getD, h]
theorem fallsP_out {secs : List Sec} {first : Int} {n : Nat} (pre : List Hld) {x : Hld} (h : ¬ (0 ≤ dueY secs x - first ∧ dueY secs x - first < (n : Int))) : fallsP secs first n (pre ++ [x]) = fallsP secs first n pre := by
  unfold fallsP
  refine List.map_congr_left fun k hk => ?_
  rw [List.mem_range] at hk
  rw [sumH_app]
  have : (dueY secs x == first + (k : Int)) = false := by rw [beq_eq_false_iff_ne]; omega
  simp [sumH, this]
theorem fallsP_in {secs : List Sec} {first : Int} {n : Nat} (pre : List Hld) {x : Hld} {i : Nat} (h : dueY secs x - first = (i : Int)) (hi : i < n) : fallsP secs first n (pre ++ [x]) = (fallsP secs first n pre).set i ((fallsP secs first n pre).getD i 0 + x.amt) := by
  refine List.ext_getElem (by simp [fallsP]) fun k h1 h2 => ?_
  have hk : k < n := by rw [fallsP_len] at h1; exact h1
  rw [List.getElem_set]
  simp only [fallsP, List.getElem_map, List.getElem_range, sumH_app]
  split
  · rename_i e
    subst e
    have : (dueY secs x == first + (i : Int)) = true := by rw [beq_iff_eq]; omega
    simp [sumH, this, List.getD, hi]
  · rename_i e
    have : (dueY secs x == first + (k : Int)) = false := by rw [beq_eq_false_iff_ne]; omega
    simp [sumH, this]

/-- A world within falls. -/
structure FI (w : World) (bs g : Nat) (first : Int) (n : Nat) (L : List Int) (A : World) : Prop where
  b4 : A.heap[w.heap.size + 1]? = some (.cells #[.int .i64 first] 3 (0, 0))
  b5 : A.heap[w.heap.size + 1 + 1]? = some (.cells #[.int .i64 (n : Int)] 3 (0, 0))
  b7 : A.heap[bs]? = some (.cells #[.slice (some ⟨g, 0, none⟩) n n] 22 (0, 0))
  row : A.heap[g]? = some (.cells (cellsI L).toArray 3 (0, 0))
  old : Below w.heap.size w A
theorem FI.below {w : World} {bs g : Nat} {first : Int} {n : Nat} {L : List Int} {A B : World} (h : FI w bs g first n L A) (hb : Below A.heap.size A B) : FI w bs g first n L B :=
  ⟨obj_below h.b4 hb, obj_below h.b5 hb, obj_below h.b7 hb, obj_below h.row hb, h.old.trans (hb.mono h.old.size)⟩
theorem FI.stay {w : World} {bs g N : Nat} {first : Int} {n : Nat} {L : List Int} {A B : World} {row : Option Nat} (h : FI w bs g first n L A) (hN : w.heap.size ≤ N) (hg : A.grownBy B row) (hr : ∀ r, row = some r → N ≤ r ∧ ∃ o : Obj, A.heap[r]? = some o ∧ o.isCells = false) : FI w bs g first n L B :=
  ⟨cells_stay h.b4 hg hr, cells_stay h.b5 hg hr, cells_stay h.b7 hg hr, cells_stay h.row hg hr, h.old.grown hg h.old.size fun j e => by have := (hr j (by first | exact e | exact e.symm)).1; omega⟩
theorem FI.own {w : World} {bs g N : Nat} {first : Int} {n : Nat} (hN : w.heap.size ≤ N) (L : List Hld → List Int) : OwnFrom N (fun pre A => FI w bs g first n (L pre) A) := fun s A B row hs hg hr => hs.stay hN hg hr

theorem stepB_set {S : Nat → Prop} {A : World} {b i : Nat} {v : Value} (hS : S b) : StepB S A (A.setCell ⟨b, i, none⟩ v) :=
  ⟨by simp, fun k o h hn => by
    cases ho : o.isCells with
    | false => exact (KeepsOthers.setCell A ⟨b, i, none⟩ v).same k o h ho
    | true => exact (Below.heap_setCell A ⟨b, i, none⟩ v k (by show k ≠ b; intro e; subst e; exact hn ⟨hS, ho⟩)).trans h⟩
theorem FI.set {w : World} {bs g : Nat} {first : Int} {n : Nat} {L : List Int} {A : World} (h : FI w bs g first n L A) (h1 : w.heap.size + 1 + 1 < g) (h3 : g < bs) (i : Nat) (v : Int) : FI w bs g first n (L.set i v) (A.setCell ⟨g, i, none⟩ (.int .i64 v)) := by
  refine ⟨(Below.heap_setCell A ⟨g, i, none⟩ _ _ (by show _ ≠ g; omega)).trans h.b4, (Below.heap_setCell A ⟨g, i, none⟩ _ _ (by show _ ≠ g; omega)).trans h.b5, (Below.heap_setCell A ⟨g, i, none⟩ _ _ (by show _ ≠ g; omega)).trans h.b7, ?_, h.old.setCell (by show _ ≤ g; omega) _⟩
  have := obj_set h.row i (.int .i64 v)
  rw [List.setIfInBounds_toArray, cellsI_set] at this
  exact this
theorem drew2 (B : World) : Below B.heap.size B B.drew.drew := ((Below.refl _ _).drew).drew
theorem FI.still {S : Nat → Prop} {w : World} {bs g : Nat} {first : Int} {n : Nat} {L : List Int} {A : World} (h : FI w bs g first n L A) : KeepsOthers A A.drew ∧ KeepsBut S A A.drew ∧ FI w bs g first n L A.drew := by
  have hb : Below A.heap.size A A.drew := (Below.refl _ _).drew
  have hs := (stepB_below (S := S) hb).keeps
  exact ⟨hs.1, hs.2, h.below hb⟩
theorem FI.round {S : Nat → Prop} {w : World} {bs g : Nat} {first : Int} {n : Nat} {L : List Int} {A : World} (h : FI w bs g first n L A) {i : Nat} {v : Int} (h1 : w.heap.size + 1 + 1 < g) (h3 : g < bs) (h4 : S g) (h5 : True) :
    KeepsOthers A (A.setCell ⟨g, i, none⟩ (.int .i64 v)).drew.drew ∧ KeepsBut S A (A.setCell ⟨g, i, none⟩ (.int .i64 v)).drew.drew ∧ FI w bs g first n (L.set i v) (A.setCell ⟨g, i, none⟩ (.int .i64 v)).drew.drew := by
  have hs := ((stepB_set (S := S) (A := A) (i := i) (v := .int .i64 v) h4).trans (stepB_below (drew2 _))).keeps
  exact ⟨hs.1, hs.2, (h.set h1 h3 i v).below (drew2 _)⟩

/-- A round of falls: the loop's variables are laid, and stand in their boxes. -/
def FAx (r : Reg) (w : World) (N bs g : Nat) (first : Int) (n : Nat) (D : Value) (pre : List Hld) (x : Hld) (a' : Act) (A : World) : Prop :=
  ∃ b8 b9 : Nat, N ≤ b8 ∧ N ≤ b9 ∧ A.heap[b8]? = some (.cells (secAt r.secs x.sec).cells.toArray 55 (0, 0)) ∧ A.heap[b9]? = some (.cells (hldC x).toArray 53 (0, 0)) ∧ FI w bs g first n (fallsP r.secs first n pre) A ∧
    a' = { tmps := #[D, .int .i64 first, .int .i64 (n : Int), .pointer (some ⟨w.heap.size, 0, none⟩), .pointer (some ⟨w.heap.size + 1, 0, none⟩), .pointer (some ⟨w.heap.size + 1 + 1, 0, none⟩), .slice none 0 0, .pointer (some ⟨bs, 0, none⟩), .pointer (some ⟨b8, 0, none⟩), .pointer (some ⟨b9, 0, none⟩), undef, .int .i64 (n : Int), .slice (some ⟨g, 0, none⟩) n n, D, .func (.func 63) #[D] #[], .agg (secAt r.secs x.sec).cells.toArray, .agg (hldC x).toArray, undef, undef, undef, undef, undef, undef, undef, undef, undef, undef, undef, undef, undef, undef, undef, undef, undef, undef, undef, undef, undef], defers := [] }

theorem prefix_in {r : Reg} (h : RegOk r) {pre : List Hld} {x : Hld} (hp : (pre ++ [x]) <+: r.hs) (p : Hld → Bool) : 0 ≤ sumH p pre ∧ sumH p pre + x.amt ≤ 20000000000000 ∧ 1 ≤ x.amt := by
  obtain ⟨t, ht⟩ := hp
  have h1 := h.debt_in.2
  have h2 := h.hld
  unfold debtM at h1
  rw [← ht, sumH_app, sumH_app] at h1
  have h3 := sumH_le (p := p) (l := pre) fun y hy => h2 y (by rw [← ht]; simp [hy])
  have h4 := (sumH_le (p := fun _ => true) (l := t) fun y hy => h2 y (by rw [← ht]; simp [hy])).1
  have h5 := (h2 x (by rw [← ht]; simp)).amt
  simp only [sumH, if_true] at h1
  omega
theorem fallsP_nil (secs : List Sec) (first : Int) (n : Nat) : (madeCells (Value.int .i64 0).cells (n * 1)).toList = cellsI (fallsP secs first n []) := by
  rw [Nat.mul_one]
  refine (toList_madeCells_one _ _).trans ?_
  simp [fallsP, cellsI, sumH, List.map_const']
theorem falls_start {w w1 : World} {x y z : Value} {first : Int} {n : Nat} (secs : List Sec)
    (ho : w1.ownsRow w.heap.size 3 1 (.slice (some ⟨(((w.alloc (.cells #[x, y, z] 93)).alloc (.cells #[.int .i64 first] 3)).alloc (.cells #[.int .i64 (n : Int)] 3)).heap.size, 0, none⟩) n n) n (madeCells (Value.int .i64 0).cells (n * 1)).toList)
    (hg : (((w.alloc (.cells #[x, y, z] 93)).alloc (.cells #[.int .i64 first] 3)).alloc (.cells #[.int .i64 (n : Int)] 3)).grownBy w1 none) :
    (w1.alloc (.cells #[.slice (some ⟨w.heap.size + 1 + 1 + 1, 0, none⟩) n n] 22)).heap[w.heap.size]? = some (.cells #[x, y, z] 93 (0, 0)) ∧ FI w w1.heap.size (w.heap.size + 1 + 1 + 1) first n (fallsP secs first n []) (w1.alloc (.cells #[.slice (some ⟨w.heap.size + 1 + 1 + 1, 0, none⟩) n n] 22)) ∧ w.heap.size + 1 + 1 + 1 < w1.heap.size := by
  rw [fallsP_nil secs first n] at ho
  obtain ⟨h1, h2⟩ := row_heap ho
  simp only [World.size_alloc] at h1
  have hs := hg.size
  simp only [World.size_alloc] at hs
  have hb3 : Below (w.heap.size + 1 + 1 + 1) (((w.alloc (.cells #[x, y, z] 93)).alloc (.cells #[.int .i64 first] 3)).alloc (.cells #[.int .i64 (n : Int)] 3)) (w1.alloc (.cells #[.slice (some ⟨w.heap.size + 1 + 1 + 1, 0, none⟩) n n] 22)) :=
    ((Below.refl _ _).grown hg (by simp) (fun j e => by cases e)).alloc (by omega) _
  have a0 : (((w.alloc (.cells #[x, y, z] 93)).alloc (.cells #[.int .i64 first] 3)).alloc (.cells #[.int .i64 (n : Int)] 3)).heap[w.heap.size]? = some (.cells #[x, y, z] 93 (0, 0)) := obj_below (obj_below (heap_alloc_new w _) (below_alloc _ _)) (below_alloc _ _)
  have a1 : (((w.alloc (.cells #[x, y, z] 93)).alloc (.cells #[.int .i64 first] 3)).alloc (.cells #[.int .i64 (n : Int)] 3)).heap[w.heap.size + 1]? = some (.cells #[.int .i64 first] 3 (0, 0)) := by
    have := heap_alloc_new (w.alloc (.cells #[x, y, z] 93)) (.cells #[.int .i64 first] 3)
    rw [World.size_alloc] at this
    exact obj_below this (below_alloc _ _)
  have a2 : (((w.alloc (.cells #[x, y, z] 93)).alloc (.cells #[.int .i64 first] 3)).alloc (.cells #[.int .i64 (n : Int)] 3)).heap[w.heap.size + 1 + 1]? = some (.cells #[.int .i64 (n : Int)] 3 (0, 0)) := by
    have := heap_alloc_new ((w.alloc (.cells #[x, y, z] 93)).alloc (.cells #[.int .i64 first] 3)) (.cells #[.int .i64 (n : Int)] 3)
    rw [World.size_alloc, World.size_alloc] at this
    exact this
  have st : ∀ {k : Nat} {o : Obj}, (((w.alloc (.cells #[x, y, z] 93)).alloc (.cells #[.int .i64 first] 3)).alloc (.cells #[.int .i64 (n : Int)] 3)).heap[k]? = some o → (w1.alloc (.cells #[.slice (some ⟨w.heap.size + 1 + 1 + 1, 0, none⟩) n n] 22)).heap[k]? = some o := fun {k o} h =>
    (hb3.block k (by have := obj_lt h; simp only [World.size_alloc] at this; omega)).trans h
  refine ⟨st a0, ⟨st a1, st a2, heap_alloc_new w1 _, obj_below h1 (below_alloc _ _), ?_⟩, obj_lt h1⟩
  exact ((((Below.refl w.heap.size w).alloc (Nat.le_refl _) _).alloc (by simp) _).alloc (by simp; omega) _).trans (hb3.mono (by omega))

set_option maxRecDepth 100000 in
set_option maxHeartbeats 8000000 in
theorem rifalls_ok (r : Reg) (x y z : Value) (first : Int) (n : Nat) (w : World) (h : RegOk r) (hr : RegAt w x y z r) (hf : 0 ≤ first ∧ first ≤ 100) (hn : 1 ≤ n ∧ n ≤ 60) :
    Calls Try.prog 49 #[.agg #[x, y, z], .int .i64 first, .int .i64 (n : Int)] w fun e w' => ∃ v, e = .returned v ∧ w'.ownsRow w.heap.size 3 1 v n (cellsI (fallsL r first n)) ∧ Below w.heap.size w w' := by
  refine (callsIn_wide (n := 0)).1 ?_
  obtain ⟨i0, hi, hz0, hz1, hz2⟩ := info_parts Try.infoInt
  have HOK := Lib.hid h
  have HREG := Lib.hid hr
  have hn0 : (0 : Int) ≤ (n : Int) := by omega
  have hn1 : (n : Int) ≤ 60 := by omega
  have hmo : Try.prog.follows .mixedOrders = true := by kernel_rfl
  clear h hr
  refine callsIn_of_wp_marks Try.func49 rfl trivial ?_ rfl
  simp only [Try.ntmps49, List.size_toArray, List.length_cons, List.length_nil, Nat.reduceAdd, Nat.reduceSub, Array.replicate_succ, Array.replicate_zero, List.push_toArray, List.append_toArray, List.nil_append, List.cons_append]
  have HFS := Lib.hid (fun w1 ho hg => falls_start (w := w) (w1 := w1) (x := x) (y := y) (z := z) (first := first) (n := n) r.secs ho hg)
  gi_wp2_with (gi_at_make; refine wpListIn_make_full _ rfl _ _ 22 rfl w.heap.size 3 i0 (.int .i64 0) 1 Try.underlying22 hi hz0 hz1 .i64 .i64 _ _ n rfl rfl rfl rfl (by rw [hz2]; omega) (by unfold maxLen; omega) (by simp; omega) ?_; intro w1 hown1 hgrow1; obtain ⟨hb0, hfi, hlt⟩ := HFS.out w1 hown1 hgrow1; (have q0 := obj_cell hb0 0); (have q1 := obj_cell hb0 1); (have q2 := obj_cell hb0 2); simp at q0 q1 q2; (have HFI := Lib.hid hfi); (have HLT := Lib.hid hlt); clear hown1 hgrow1 hb0 hfi hlt)
  obtain ⟨WL, hWL⟩ : ∃ WL, WL = w1.alloc (.cells #[.slice (some ⟨w.heap.size + 1 + 1 + 1, 0, none⟩) n n] 22) := ⟨_, rfl⟩
  obtain ⟨bs, hbs⟩ : ∃ bs, bs = w1.heap.size := ⟨_, rfl⟩
  have HSZ : Hid (WL.heap.size = bs + 1) := Lib.hid (by rw [hWL, hbs]; simp)
  obtain ⟨g, hg⟩ : ∃ g, g = w.heap.size + 1 + 1 + 1 := ⟨_, rfl⟩
  have HGB : Hid (g < bs) := Lib.hid (by rw [hg, hbs]; exact HLT.out)
  have HG0 : Hid (g = w.heap.size + 1 + 1 + 1) := Lib.hid hg
  rw [← hWL, ← hbs, ← hg] at HFI ⊢
  clear hWL hbs hg q0 q1 q2 HLT HFS
  refine range_pairs (gf := 63) (fst := #[.agg #[x, y, z]]) (lb := #[]) (xs := r.hs) (encs := heldV r) (Kp := KeepsBut fun k => w.heap.size ≤ k ∧ k < WL.heap.size) rfl (enters_of Try.func63 (by kernel_rfl) rfl)
    (riheld_in r x y z w WL _ HOK.out HREG.out (KeptC.of_below (Nat.le_refl _) HFI.out.old) (fun k hk => hk)) keepsBut_t keepsBut_b keepsBut_below (fun _ => rfl)
    (fun pre A => FI w bs g first n (fallsP r.secs first n pre) A) (fun _ _ _ => False)
    (FI.own (by have := HSZ.out; have := HGB.out; have := HG0.out; omega) _) (fun c pre A B row h hg hr => h.elim) (fun pre A B h hb => h.below hb) HFI.out
    (FAx r w WL.heap.size bs g first n (.agg #[x, y, z]))
    (fun pre x a' A l o o' hl ho hc h => by
      obtain ⟨b8, b9, h1, h2, h3, h4, h5, h6⟩ := h
      have hg := grownBy_putObj' A l o'
      have hr : ∀ r, (some l : Option Nat) = some r → WL.heap.size ≤ r ∧ ∃ o : Obj, A.heap[r]? = some o ∧ o.isCells = false := fun r e => by cases e; exact ⟨hl, o, ho, hc⟩
      exact ⟨b8, b9, h1, h2, cells_stay h3 hg hr, cells_stay h4 hg hr, h5.stay (by have := HSZ.out; have := HGB.out; have := HG0.out; omega) hg hr, h6⟩)
    ?assign ?body ?done ?stop
  case assign =>
    rintro l pre ⟨g0, g1, g2⟩ A K hp hI hK
    have HKK := Lib.hid hK
    have HII := Lib.hid hI
    have HXL : Hid (WL.heap.size ≤ A.heap.size) := Lib.hid (by
      have h1 := obj_lt hI.b7
      have := HSZ.out
      omega)
    unfold heldV
    obtain ⟨s, hs⟩ : ∃ s, s = secAt r.secs g0 := ⟨_, rfl⟩
    have HSS := Lib.hid hs
    simp only [← hs, hldC]
    obtain ⟨t0, t1, t2, t3, t4, t5, t6⟩ := s
    simp only [Sec.cells]
    clear hs hK hI hp
    gi_wp2
    refine HKK.out _ _ ⟨A.heap.size, A.heap.size + 1, HXL.out, by have := HXL.out; omega, ?_, ?_, HII.out.below (below2 A _ _), ?_⟩ (below2 A _ _)
    · rw [← HSS.out]; exact alloc1_at A _ _
    · exact alloc2_at A _ _
    · rw [← HSS.out]; rfl
  case body =>
    rintro l pre ⟨g0, g1, g2⟩ a' A hp ⟨b8, b9, h8l, h9l, h8, h9, hfi, rfl⟩
    have HS1 : Hid (w.heap.size + 1 + 1 < g) := Lib.hid (by have := HG0.out; omega)
    have HS2 : Hid (g < bs) := HGB
    have HS3 : Hid ((fun k => w.heap.size ≤ k ∧ k < WL.heap.size) g) := Lib.hid (by show w.heap.size ≤ g ∧ g < WL.heap.size; have := HG0.out; have := HSZ.out; have := HGB.out; omega)
    have HS4 : Hid True := Lib.hid trivial
    have hx : (⟨g0, g1, g2⟩ : Hld) ∈ r.hs := hp.subset (by simp)
    have hm := ((HOK.out.known _ hx).2.1).mat
    have hd := HOK.out.due _ hx
    have HOUT : Hid (¬ (0 ≤ dueY r.secs ⟨g0, g1, g2⟩ - first ∧ dueY r.secs ⟨g0, g1, g2⟩ - first < (n : Int)) → fallsP r.secs first n (pre ++ [⟨g0, g1, g2⟩]) = fallsP r.secs first n pre) := Lib.hid (fallsP_out pre)
    have HIN : Hid (∀ i : Nat, dueY r.secs ⟨g0, g1, g2⟩ - first = (i : Int) → i < n → fallsP r.secs first n (pre ++ [⟨g0, g1, g2⟩]) = (fallsP r.secs first n pre).set i ((fallsP r.secs first n pre).getD i 0 + g2)) := Lib.hid fun i h1 h2 => fallsP_in pre h1 h2
    have HBD : Hid (∀ i : Nat, i < n → 0 ≤ (fallsP r.secs first n pre).getD i 0 ∧ (fallsP r.secs first n pre).getD i 0 + g2 ≤ 20000000000000 ∧ 1 ≤ g2) := Lib.hid fun i hi => by
      rw [fallsP_get _ _ _ _ _ hi]; exact prefix_in HOK.out hp _
    have hL := fallsP_len r.secs first n pre
    unfold dueY at HOUT HIN hd
    simp only [hldC] at h9 ⊢
    simp only at HOUT HIN hd hm
    obtain ⟨L2, hL2⟩ : ∃ L2, L2 = fallsP r.secs first n (pre ++ [⟨g0, g1, g2⟩]) := ⟨_, rfl⟩
    have HLQ := Lib.hid hL2
    rw [← hL2] at HOUT HIN
    clear hL2
    generalize fallsP r.secs first n pre = L at *
    generalize secAt r.secs g0 = s at *
    obtain ⟨t0, t1, t2, t3, t4, t5, t6⟩ := s
    simp only [Sec.cells] at h8 hd hm HOUT HIN ⊢
    have HYR : ∀ W, Hid (CallsIn (Fence.wide.inRound l) 0 Try.prog 101 #[.int .i64 t3] W fun e w' => e = .returned (.int .i64 (t3 / 360)) ∧ W = w') := fun W => Lib.hid (CallsIn.inRound l (callsIn_wide.2 (cYear_yes t3 W (dayB_true.2 ⟨by omega, by omega⟩))))
    obtain ⟨d, hdd⟩ : ∃ d, d = t3 / 360 := ⟨_, rfl⟩
    rw [← hdd] at HYR HOUT HIN hd
    have hwd : IntKind.i64.wrap (d - first) = d - first := IntWalk.i64_in _ (by omega)
    have hh4 := hfi.b4
    have hh5 := hfi.b5
    have hh7 := hfi.b7
    have c4 := obj_cell hh4 0
    have c5 := obj_cell hh5 0
    have c7 := obj_cell hh7 0
    have e3 := obj_cell h8 3
    have k2 := obj_cell h9 2
    simp at c4 c5 c7 e3 k2
    have HFI := Lib.hid hfi
    have HLL := Lib.hid hL
    clear hfi hh4 hh5 hh7 h8 h9 hx hp hm hdd hL
    by_cases hin : 0 ≤ d - first ∧ d - first < (n : Int)
    · obtain ⟨i, hi⟩ : ∃ i : Nat, d - first = (i : Int) := ⟨(d - first).toNat, by omega⟩
      have hin2 : i < n := by omega
      obtain ⟨o0, o1, o2⟩ := HBD.out i hin2
      have HL2 := Lib.hid (HIN.out i hi hin2)
      obtain ⟨old, hold⟩ : ∃ old, old = L.getD i 0 := ⟨_, rfl⟩
      rw [← hold] at o0 o1 HL2
      have cr : A.cell? ⟨g, i, none⟩ = some (.int .i64 old) := by
        have := obj_cell HFI.out.row i
        simp only [List.getElem?_toArray] at this
        rw [this, hold]; exact cellsI_get L i (by rw [HLL.out]; exact hin2)
      have fr := obj_free HFI.out.row i
      have hwo : IntKind.i64.wrap (old + g2) = old + g2 := IntWalk.i64_in _ (by omega)
      have hi0 : (0 : Int) ≤ (i : Int) := by omega
      have hi1 : (i : Int) < (n : Int) := by omega
      replace hwd : IntKind.i64.wrap (d - first) = (i : Int) := by rw [hwd, hi]
      have HEND := Lib.hid (HFI.out.round (S := fun k => w.heap.size ≤ k ∧ k < WL.heap.size) (i := i) (v := old + g2) HS1.out HS2.out HS3.out HS4.out)
      rw [← HL2.out, HLQ.out] at HEND
      clear hold HIN HOUT HBD hin hi
      gi_wp2
      gi_region_with_o (refine ⟨trivial, rfl, ?_⟩; gi_at_call 101; refine ((HYR _).out).mono ?_; rintro e w' ⟨rfl, rfl⟩)
      all_goals
        gi_wp2
        gi_region_with_o fail
      all_goals
        gi_wp2
        exact HEND.out
    · have HL2 := Lib.hid (HOUT.out hin)
      have HEND := Lib.hid (HFI.out.still (S := fun k => w.heap.size ≤ k ∧ k < WL.heap.size))
      rw [← HL2.out, HLQ.out] at HEND
      clear HIN HOUT HBD
      by_cases hneg : 0 ≤ d - first
      · have hge : (n : Int) ≤ d - first := by omega
        clear hin
        gi_wp2
        gi_region_with_o (refine ⟨trivial, rfl, ?_⟩; gi_at_call 101; refine ((HYR _).out).mono ?_; rintro e w' ⟨rfl, rfl⟩)
        all_goals
          gi_wp2
        all_goals exact HEND.out
      · clear hin
        gi_wp2
        gi_region_with_o (refine ⟨trivial, rfl, ?_⟩; gi_at_call 101; refine ((HYR _).out).mono ?_; rintro e w' ⟨rfl, rfl⟩)
        all_goals
          gi_wp2
        all_goals exact HEND.out
  case done =>
    rintro D A hD hfi hK
    have hh7 := hfi.b7
    have c7 := obj_cell hh7 0
    simp at c7
    have HFI := Lib.hid hfi
    have HKK := Lib.hid hK
    clear hfi hh7 hK
    gi_wp2
    have hN : w.heap.size ≤ WL.heap.size := by have := HSZ.out; have := HGB.out; have := HG0.out; omega
    have hfi2 := HFI.out.stay (N := WL.heap.size) hN (grownBy_putObj' A D (.deferred none)) (fun q e => by cases e; exact ⟨hD, _, HKK.out, rfl⟩)
    refine ⟨by simp, .inl ⟨_, _, rfl, run_takeDeferred HKK.out, ?_⟩⟩
    refine ⟨_, results_tmp rfl _ _ _, _, rfl, ?_, hfi2.old⟩
    rw [← fallsP_all]
    exact heap_row hfi2.row (by have := HG0.out; omega) (by simp [cellsI, fallsP_len]) (by unfold maxLen; omega)
  case stop =>
    rintro D c pre A hD hpre h hK
    exact h.elim

end Go.Proofs.Ytblidmkkbcobgaa
