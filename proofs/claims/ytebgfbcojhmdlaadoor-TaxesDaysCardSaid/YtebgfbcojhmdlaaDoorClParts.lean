/- The contract of classification.Parts: the numbers of a code, and nothing for a text that is none; for texts of up to 10^6 bytes. -/
import Derived.Test.YtebgfbcojhmdlaaDoorSplit
import Derived.Test.YtebgfbcojhmdlaaDoorNumber
import Derived.Maps.AppendAt
namespace Go.Proofs.YtebgfbcojhmdlaaDoor
open Go.RowKit Go.Lib Go.Proofs

attribute [local go_sem] Oper.semAt_some

theorem keepsOthers_below {A B : World} (h : Below A.heap.size A B) : KeepsOthers A B := ⟨h.size, fun k _ hk _ => (h.block k (Array.getElem?_eq_some_iff.1 hk).1).trans hk⟩

theorem boxed_below {A B : World} {b : Nat} {t : TypeId} {v : Value} (h : Boxed A b t v) (k : Below A.heap.size A B) : Boxed B b t v := (k.block _ h.lt).trans h

/-- The numbers that some words write, if each writes one. -/
def numsB : List ByteArray → Option (List Nat)
  | [] => some []
  | x :: l => match numW x.data.toList, numsB l with
    | some v, some vs => some (v :: vs)
    | _, _ => none

theorem numsB_snoc (l : List ByteArray) (x : ByteArray) : numsB (l ++ [x]) = match numsB l, numW x.data.toList with
    | some vs, some v => some (vs ++ [v])
    | _, _ => none := by
  induction l with
  | nil =>
    simp only [List.nil_append, numsB]
    cases numW x.data.toList <;> rfl
  | cons y l ih =>
    simp only [List.cons_append, numsB, ih]
    cases numW y.data.toList <;> cases numsB l <;> cases numW x.data.toList <;> rfl

theorem numsB_pre {a b : List ByteArray} (h : a <+: b) (hn : numsB a = none) : numsB b = none := by
  obtain ⟨r, rfl⟩ := h
  induction a with
  | nil => simp [numsB] at hn
  | cons y l ih =>
    simp only [List.cons_append, numsB] at hn ⊢
    cases hy : numW y.data.toList with
    | none => rfl
    | some v =>
      rw [hy] at hn
      cases hl : numsB l with
      | none => rw [ih hl]
      | some vs => rw [hl] at hn; cases hn

theorem numsB_length : ∀ {l : List ByteArray} {vs : List Nat}, numsB l = some vs → vs.length = l.length
  | [], vs, h => by simp [numsB] at h; subst h; rfl
  | y :: l, vs, h => by
    simp only [numsB] at h
    cases hy : numW y.data.toList with
    | none => rw [hy] at h; cases h
    | some v =>
      cases hl : numsB l with
      | none => rw [hy, hl] at h; cases h
      | some us =>
        rw [hy, hl] at h
        injection h with h
        subst h
        simp [numsB_length hl]

/-- The numbers of a code, nothing for a text that is none. -/
def partsN (s : ByteArray) : List Nat := match numsB (wordsB 46 s) with
  | some vs => if vs.length ≤ 4 then vs else []
  | none => []

/-- A list of natural numbers, as Go's ints. -/
def asInts (l : List Nat) : List Int := l.map fun n : Nat => (n : Int)
theorem asInts_snoc (l : List Nat) (n : Nat) : asInts (l ++ [n]) = asInts l ++ [(n : Int)] := by simp [asInts]
theorem asInts_len (l : List Nat) : (asInts l).length = l.length := by simp [asInts]

/-- What Parts hands back: a slice of its own with these numbers. -/
def PartsPost (w : World) (ns : List Nat) (e : Ending) (w' : World) : Prop :=
  ∃ v, e = .returned v ∧ w'.ownsRow w.heap.size 3 1 v ns.length (cellsI (asInts ns)) ∧ Below w.heap.size w w'

/-- The world of the loop between two rounds. -/
structure PInv (w : World) (b : Nat) (pre : List ByteArray) (W : World) : Prop where
  got : ∃ ns v, numsB pre = some ns ∧ ns.length ≤ 4 ∧ Boxed W (w.heap.size + 1) 22 v ∧ W.ownsRow (b + 3) 3 1 v ns.length (cellsI (asInts ns))
  res : Boxed W w.heap.size 22 (.slice none 0 0)
  old : Below w.heap.size w W
  top : b + 3 ≤ W.heap.size

theorem PInv.step {w : World} {b : Nat} {pre : List ByteArray} {A B : World} {row : Option Nat} (h : PInv w b pre A) (hg : A.grownBy B row) (hb : w.heap.size + 1 < b)
    (hr : ∀ r, row = some r → (b ≤ r ∧ r < b + 3) ∨ (b ≤ r ∧ ∃ o : Obj, A.heap[r]? = some o ∧ o.isCells = false)) : PInv w b pre B := by
  obtain ⟨⟨ns, v, h1, h2, h3, h4⟩, h5, h6, h7⟩ := h
  have hne : ∀ k, k < b → Option.some k ≠ row := fun k hk e => by
    rcases hr k e.symm with h | h <;> omega
  refine ⟨⟨ns, v, h1, h2, h3.kept hg (hne _ (by omega)), h4.kept hg ?_⟩, h5.kept hg (hne _ (by omega)), h6.grown hg h6.size fun j e => by rcases hr j e with h | h <;> omega, Nat.le_trans h7 hg.size⟩
  rcases h4.2 with ⟨rfl, _⟩ | ⟨g, cap, cur, rfl, hg1, hgb, _⟩
  · exact .inl rfl
  · refine .inr fun e' => ?_
    rcases hr g (by simpa [Value.ownBlock] using e'.symm) with h | ⟨_, o, ho, hc⟩
    · omega
    · rw [hgb] at ho; cases ho; cases hc

/-- The world where a round has left: no numbers. -/
structure PBad (w : World) (c : Code) (pre : List ByteArray) (W : World) : Prop where
  ret : c = .ret
  bad : numsB pre = none ∨ ∃ ns, numsB pre = some ns ∧ 4 < ns.length
  res : Boxed W w.heap.size 22 (.slice none 0 0)
  old : Below w.heap.size w W

theorem PBad.step {w : World} {c : Code} {pre : List ByteArray} {A B : World} {row : Option Nat} (h : PBad w c pre A) (hg : A.grownBy B row) (hr : ∀ r, row = some r → w.heap.size < r) : PBad w c pre B :=
  ⟨h.ret, h.bad, h.res.kept hg (fun e => by have := hr _ e.symm; omega), h.old.grown hg h.old.size fun j e => by have := hr j e; omega⟩

theorem partsN_bad {s : ByteArray} {pre : List ByteArray} (hp : pre <+: wordsB 46 s) (h : numsB pre = none ∨ ∃ ns, numsB pre = some ns ∧ 4 < ns.length) : partsN s = [] := by
  unfold partsN
  rcases h with h | ⟨ns, h, hl⟩
  · rw [numsB_pre hp h]
  · cases hn : numsB (wordsB 46 s) with
    | none => rfl
    | some vs =>
      have h1 := numsB_length h
      have h2 := numsB_length hn
      have h3 := hp.length_le
      show (if vs.length ≤ 4 then vs else []) = []
      rw [if_neg (by omega)]

theorem Tryd.infoI : (Tryd.prog.info? 3).map (fun i => (i.zero, i.size, i.bytes)) = some (some (.int .i64 0), 1, 8) := by kernel_rfl

theorem infoI_parts : ∃ i, Tryd.prog.info? 3 = some i ∧ i.zero = some (.int .i64 0) ∧ i.size = 1 ∧ i.bytes = 8 := info_parts Tryd.infoI

theorem words_sizes (c : UInt8) (s : ByteArray) : ∀ x ∈ wordsB c s, x.size ≤ s.size := by
  intro x hx
  obtain ⟨l, hl, rfl⟩ := List.mem_map.1 hx
  rw [txt_size, size_list]
  exact wordsL_len c _ l hl

/-- The world in which the loop of Parts begins. -/
def partsWorld (s : ByteArray) (w : World) : World := splitWorld s 46 ((w.alloc (.cells #[.slice none 0 0] 22)).alloc (.cells #[.slice none 0 0] 22))
theorem partsWorld_size (s : ByteArray) (w : World) : (partsWorld s w).heap.size = w.heap.size + 5 := by unfold partsWorld; rw [splitWorld_size]; simp
theorem partsWorld_inv (s : ByteArray) (w : World) : PInv w (w.heap.size + 1 + 1) [] (partsWorld s w) := by
  have e1 : (w.alloc (.cells #[.slice none 0 0] 22)).heap.size = w.heap.size + 1 := by simp
  have hb := splitWorld_below s 46 ((w.alloc (.cells #[.slice none 0 0] 22)).alloc (.cells #[.slice none 0 0] 22))
  have b0 := (Boxed.new w 22 (.slice none 0 0)).alloc (.cells #[.slice none 0 0] 22)
  have b1 := Boxed.new (w.alloc (.cells #[.slice none 0 0] 22)) 22 (.slice none 0 0)
  rw [e1] at b1
  have hold := ((Below.refl _ w).alloc (Nat.le_refl _) (.cells #[.slice none 0 0] 22)).alloc (by simp) (.cells #[.slice none 0 0] 22)
  refine ⟨⟨[], _, rfl, by simp, (hb.block _ b1.lt).trans b1, World.ownsRow_nil _ _ _ _⟩, (hb.block _ b0.lt).trans b0, hold.trans (hb.mono hold.size), by rw [partsWorld_size]; omega⟩

/-- What a round does to the world: number, and where its word is one, the append. -/
theorem PInv.put {w : World} {b : Nat} {pre : List ByteArray} {x : ByteArray} {A A1 A2 : World} {ns : List Nat} {n : Nat} {v v' : Value} {T : TypeId}
    (hn : numsB pre = some ns) (hx : numW x.data.toList = some n) (hlen : ns.length < 4) (hbx : w.heap.size + 1 < b)
    (hp : Boxed A (w.heap.size + 1) 22 v) (hr : A.ownsRow (b + 3) 3 1 v ns.length (cellsI (asInts ns))) (hres : Boxed A w.heap.size 22 (.slice none 0 0)) (hold : Below w.heap.size w A) (htop : b + 3 ≤ A.heap.size)
    (hb1 : Below A.heap.size A A1)
    (ho : A2.ownsRow (b + 3) 3 1 v' (ns.length + 1) (cellsI (asInts ns) ++ [.int .i64 (n : Int)])) (hg : (A1.alloc (.cells #[.int .i64 (n : Int)] T)).grownBy A2 v.ownBlock) :
    Boxed A2 (w.heap.size + 1) 22 v ∧ PInv w b (pre ++ [x]) (A2.setCell ⟨w.heap.size + 1, 0, none⟩ v') ∧ KeepsOthers A (A2.setCell ⟨w.heap.size + 1, 0, none⟩ v') ∧ KeepsThree b (b + 1) (b + 2) A (A2.setCell ⟨w.heap.size + 1, 0, none⟩ v') := by
  have hrow := fun r e => ownBlock_le hr r e
  have hrow' := fun r e => ownBlock_le ho r e
  -- a block below the row's base stays, but for the box of the numbers
  have hkeep : ∀ k, k < b + 3 → A2.heap[k]? = A.heap[k]? := fun k hk => by
    rw [hg.block k (by have := hb1.size; simp; omega) (fun e => by have := hrow k e.symm; omega), Below.heap_alloc _ _ _ (by have := hb1.size; omega), hb1.block k (by omega)]
  have hset : ∀ k, k < b + 3 → k ≠ w.heap.size + 1 → (A2.setCell ⟨w.heap.size + 1, 0, none⟩ v').heap[k]? = A.heap[k]? := fun k hk hne => by
    rw [Below.heap_setCell _ _ _ _ hne, hkeep k hk]
  have hbox : Boxed A2 (w.heap.size + 1) 22 v := (hkeep _ (by omega)).trans hp
  refine ⟨hbox, ⟨⟨ns ++ [n], v', by rw [numsB_snoc, hn, hx], by simp; omega, hbox.set v', ?_⟩, (hset _ (by omega) (by omega)).trans hres, ?_, ?_⟩, ?_, hset _ (by omega) (by omega), hset _ (by omega) (by omega), hset _ (by omega) (by omega)⟩
  · rw [asInts_snoc, ← cellsI_snoc]
    have := ho.kept (grownBy_setCell' A2 (w.heap.size + 1) v') (.inr fun e => by have := hrow' _ e; omega)
    simpa using this
  · exact (((hold.trans (hb1.mono hold.size)).alloc (by have := hold.size; have := hb1.size; omega) _).grown hg (by have := hold.size; have := hb1.size; simp; omega) (fun j e => by have := hrow j e; have := hold.size; omega)).setCell (by show w.heap.size ≤ w.heap.size + 1; omega) _
  · have h1 := hb1.size
    have h2 := hg.size
    rw [World.size_setCell]
    simp at h2
    omega
  · refine ((keepsOthers_below hb1).trans ((KeepsOthers.alloc _ _).trans (KeepsOthers.of_grownBy hg fun j o e hj => ?_))).trans (KeepsOthers.setCell _ _ _)
    have hr1 := ownsRow_below hr hb1
    rcases (hr1.alloc (.cells #[.int .i64 (n : Int)] T)).2 with ⟨rfl, _⟩ | ⟨g, cap, cur, rfl, _, hgb, _⟩
    · simp [Value.ownBlock] at e
    · obtain rfl : g = j := by simpa [Value.ownBlock] using e
      rw [hgb] at hj; cases hj; rfl

set_option maxRecDepth 100000 in
set_option maxHeartbeats 4000000 in
theorem clParts_any (s : ByteArray) (w : World) (hL : Lay w) (hs : s.size ≤ 1000000) :
    Calls Tryd.prog 31 #[.string s] w (PartsPost w (partsN s)) := by
  refine (callsIn_wide (n := 0)).1 ?_
  obtain ⟨i0, hi, hz0, hz1, hz2⟩ := infoI_parts
  have HL := Lib.hid hL
  have HWS := Lib.hid (words_sizes 46 s)
  clear hL
  refine callsIn_of_wp_marks Tryd.func31 rfl trivial ?_ rfl
  simp only [Tryd.ntmps31, List.size_toArray, List.length_cons, List.length_nil, Nat.reduceAdd, Nat.reduceSub, Array.replicate_succ, Array.replicate_zero, List.push_toArray, List.append_toArray, List.nil_append, List.cons_append]
  gi_wp2_with (refine ⟨trivial, rfl, ?_⟩; gi_at_call 38; refine (callsIn_wide.2 (SplitSeq_any s 46 _)).mono ?_; rintro e w' ⟨rfl, rfl⟩)
  have hsz := partsWorld_size s w
  have hinv := partsWorld_inv s w
  have hsp : SplitAt (w.heap.size + 1 + 1) 46 s (partsWorld s w) := by
    have := splitWorld_at s 46 ((w.alloc (.cells #[.slice none 0 0] 22)).alloc (.cells #[.slice none 0 0] 22))
    rw [World.size_alloc, World.size_alloc] at this
    exact this
  have hg0 : partsWorld s w = splitWorld s 46 ((w.alloc (.cells #[.slice none 0 0] 22)).alloc (.cells #[.slice none 0 0] 22)) := rfl
  rw [← hg0]
  clear hg0
  refine range_cell (gf := 49) (lb := #[.pointer (some ⟨w.heap.size + 1 + 1 + 1, 0, none⟩), .pointer (some ⟨w.heap.size + 1 + 1, 0, none⟩), .pointer (some ⟨w.heap.size + 1 + 1 + 2, 0, none⟩)]) rfl (enters_of Tryd.func49 (by kernel_rfl) rfl)
    (splitSeqC_in 46 s (w.heap.size + 1 + 1) _ hsp (by omega)) (by omega) keepsThree_t (keepsThree_b (by omega) (by omega) (by omega)) rfl
    (PInv w (w.heap.size + 1 + 1)) (PBad w)
    (fun pre A B row h hg hr => h.step hg (by omega) fun r e => Or.inr ⟨by have := (hr r e).1; omega, (hr r e).2⟩)
    (fun c pre A B row h hg hr => h.step hg fun r e => by have := (hr r e).1; omega)
    (fun pre A B h hg => h.step hg (by omega) fun r e => by cases e; exact Or.inl ⟨by omega, by omega⟩)
    hinv
    (fun x => { tmps := #[.string s, undef, .pointer (some ⟨w.heap.size, 0, none⟩), .pointer (some ⟨w.heap.size + 1, 0, none⟩), .string x, undef, undef, .string s, splitFn (w.heap.size + 1 + 1), .string x, undef, undef, undef, undef, undef, undef, undef, undef, undef, undef, undef, undef, undef, undef, undef, undef, undef], defers := [] }) ?assign ?body ?done ?stop
  case assign =>
    intro l x A K hK
    gi_wp2
    exact hK
  case body =>
    rintro l pre x A hpre ⟨⟨ns, v, h1, h2, h3, h4⟩, h5, h6, h7⟩
    have hLA : Lay A := HL.out.below h6 (Nat.le_refl _)
    have hxs : x.size ≤ 1000000 := by
      obtain ⟨r, hr⟩ := hpre
      have := HWS.out x (by rw [← hr]; simp)
      omega
    have HN : ∀ n, Hid (CallsIn (Fence.wide.inRound l) n Tryd.prog 39 #[.string x] A (NumPost A (numW x.data.toList))) := fun n => Lib.hid (CallsIn.inRound l (callsIn_wide.2 (clnumber_any x A hLA hxs)))
    have c3 := h3.cell
    have f3 := h3.frozen
    have c2 := h5.cell
    have f2 := h5.frozen
    obtain ⟨ao, cap, rfl, hcap, _⟩ := owns_gen h4
    cases hx : numW x.data.toList with
    | none =>
      rw [hx] at HN
      gi_wp2_with (refine ⟨trivial, rfl, ?_⟩; gi_at_call 39; refine ((HN _).out).mono ?_; rintro e A1 ⟨rfl, hb1⟩; have r2 := (boxed_below h5 hb1).cell; have g2 := (boxed_below h5 hb1).frozen; have HB1 := Lib.hid hb1; clear hb1)
      exact ⟨(keepsOthers_below HB1.out).trans (KeepsOthers.setCell _ _ _), rfl, Or.inl (by rw [numsB_snoc, h1, hx]), (boxed_below h5 HB1.out).set _, (h6.trans (HB1.out.mono h6.size)).setCell (Nat.le_refl _) _⟩
    | some n =>
      rw [hx] at HN
      by_cases h4l : ns.length = 4
      · have hd4 : ((ns.length : Int) == 4) = true := by rw [h4l]; rfl
        gi_wp2_with (refine ⟨trivial, rfl, ?_⟩; gi_at_call 39; refine ((HN _).out).mono ?_; rintro e A1 ⟨rfl, hb1⟩; have r2 := (boxed_below h5 hb1).cell; have g2 := (boxed_below h5 hb1).frozen; have r3 := (boxed_below h3 hb1).cell; have g3 := (boxed_below h3 hb1).frozen; have HB1 := Lib.hid hb1; clear hb1)
        exact ⟨(keepsOthers_below HB1.out).trans (KeepsOthers.setCell _ _ _), rfl, Or.inr ⟨ns ++ [n], by rw [numsB_snoc, h1, hx], by simp; omega⟩, (boxed_below h5 HB1.out).set _, (h6.trans (HB1.out.mono h6.size)).setCell (Nat.le_refl _) _⟩
      · have hd4 : ((ns.length : Int) == 4) = false := by rw [beq_eq_false_iff_ne]; omega
        have hsz2 : ∀ A1, Below A.heap.size A A1 → w.heap.size + 1 + 1 + 3 ≤ A1.heap.size := fun A1 h => Nat.le_trans h7 h.size
        have HSZ := Lib.hid hsz2
        have H1 := Lib.hid h1
        have HX := Lib.hid hx
        have H3 := Lib.hid h3
        have H4 := Lib.hid h4
        have H5 := Lib.hid h5
        have H6 := Lib.hid h6
        clear hsz2 h1 hx h6
        gi_wp2_with (first | (refine ⟨trivial, rfl, ?_⟩; gi_at_call 39; refine ((HN _).out).mono ?_; rintro e A1 ⟨rfl, hb1⟩; have r3 := (boxed_below h3 hb1).cell; have g3 := (boxed_below h3 hb1).frozen; have hrow := ownsRow_below h4 hb1; have hz := HSZ.out _ hb1; have HB1 := Lib.hid hb1; clear hb1) | (gi_at_builtin; refine wpListIn_append_own _ rfl _ _ 22 rfl (w.heap.size + 1 + 1 + 3) 3 i0 (.int .i64 0) 1 8 Tryd.underlying22 hi hz0 hz1 hz2 rfl (by decide) _ _ _ rfl (hrow.alloc _) ⟨A1.heap.size, 0, none⟩ 1 1 [.int .i64 (n : Int)] rfl rfl (cell_one_new _ _ _) (by simp [Value.oneCell']) (by unfold maxLen; omega) (by omega) (by simp; omega) ?_; intro v' w1 hown' hgrow _; obtain ⟨g', cap', rfl⟩ := ownsRow_succ hown'; obtain ⟨p1, p2, p3, p4⟩ := PInv.put H1.out HX.out (by omega) (by omega) H3.out H4.out H5.out H6.out h7 HB1.out hown' hgrow; have q3 := p1.cell; have q4 := p1.frozen))
        exact ⟨p3, p4, p2⟩
  case done =>
    rintro D A hD ⟨⟨ns, v, h1, h2, h3, h4⟩, h5, h6, h7⟩ hK
    have c3 := h3.cell
    have c2 := h5.cell
    have f2 := h5.frozen
    have hr : partsN s = ns := by unfold partsN; rw [h1]; exact if_pos h2
    obtain ⟨ao, cap, rfl, hcap, _⟩ := owns_gen h4
    have H1 := Lib.hid h1
    have HR := Lib.hid hr
    have HKK := Lib.hid hK
    clear h1 hr hK
    have hDw : w.heap.size + 5 ≤ D := by omega
    gi_wp2
    have hK2 := (KeepsOthers.setCell A ⟨w.heap.size, 0, none⟩ (.slice ao ns.length cap)).same _ _ HKK.out rfl
    have hg := grownBy_putObj' (A.setCell ⟨w.heap.size, 0, none⟩ (.slice ao ns.length cap)) D (.deferred none)
    have hb := (h5.set (.slice ao ns.length cap)).kept hg (fun e => by injection e; omega)
    have hrow := (h4.kept (grownBy_setCell' A w.heap.size (.slice ao ns.length cap)) (.inr fun e => by have := ownBlock_le h4 _ e; omega))
    refine ⟨by simp, .inl ⟨_, _, rfl, run_takeDeferred hK2, ?_⟩⟩
    have hc := hb.cell
    refine ⟨.slice ao ns.length cap, by simp [results, Tryd.results31, go_sem, hc], .slice ao ns.length cap, rfl, ?_, ?_⟩
    · rw [HR.out]
      exact ownsRow_mono (ownsRow_putObj hrow _ hK2 rfl) (by omega)
    · exact (h6.setCell (Nat.le_refl _) _).grown hg (by rw [World.size_setCell]; exact h6.size) fun j e => by cases e; omega
  case stop =>
    rintro D c pre A hD hpre ⟨rfl, hbad, hres, hold⟩ hK
    have HKK := Lib.hid hK
    have HR := Lib.hid (partsN_bad hpre hbad)
    clear hK hbad
    have hDw : w.heap.size + 5 ≤ D := by omega
    gi_wp2
    have hg := grownBy_putObj' A D (.deferred none)
    have hb := hres.kept hg (fun e => by injection e; omega)
    refine ⟨by simp, .inl ⟨_, _, rfl, run_takeDeferred HKK.out, ?_⟩⟩
    have hc := hb.cell
    refine ⟨.slice none 0 0, by simp [results, Tryd.results31, go_sem, hc], .slice none 0 0, rfl, ?_, ?_⟩
    · rw [HR.out]
      exact World.ownsRow_nil _ _ _ _
    · exact hold.grown hg hold.size fun j e => by cases e; omega

end Go.Proofs.YtebgfbcojhmdlaaDoor
