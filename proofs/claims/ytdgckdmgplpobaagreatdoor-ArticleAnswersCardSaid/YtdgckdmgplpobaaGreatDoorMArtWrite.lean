/- The contract of article.write: the words of an article as a form puts them, unchecked. -/
import Derived.Test.YtdgckdmgplpobaaGreatDoorMArtRead
import Derived.Stop.RegionWithIn
set_option linter.unusedSimpArgs false
set_option linter.unusedVariables false
namespace Go.Proofs.YtdgckdmgplpobaaGreatDoor
open Go.RowKit Go.Lib Go.Proofs

attribute [local go_sem] Oper.semAt_some

def wordsA (a : Art) (fs : List Fd) : List ByteArray := fs.map (wordOf a)

structure WrInv (w : World) (f : Form) (a : Art) (pre : List ByteArray) (W : World) : Prop where
  got : pre.length ≤ f.parts.length ∧ ∃ v, Boxed W (w.heap.size + 1 + 1) 37 v ∧ W.ownsRow (w.heap.size + 6) 9 1 v pre.length (cellsS (wordsA a (f.parts.take pre.length)))
  art : ArtAt W (w.heap.size + 1) a
  old : Below w.heap.size w W
  top : w.heap.size + 6 ≤ W.heap.size

theorem WrInv.step {w : World} {f : Form} {a : Art} {pre : List ByteArray} {A B : World} {row : Option Nat} (h : WrInv w f a pre A) (hg : A.grownBy B row)
    (hr : ∀ r, row = some r → (w.heap.size + 3 ≤ r ∧ r < w.heap.size + 6) ∨ (w.heap.size + 3 ≤ r ∧ ∃ o : Obj, A.heap[r]? = some o ∧ o.isCells = false)) : WrInv w f a pre B := by
  obtain ⟨⟨h1, v, h3, h4⟩, h5, h6, h7⟩ := h
  have hne : ∀ k, k < w.heap.size + 3 → Option.some k ≠ row := fun k hk e => by
    rcases hr k e.symm with h | h <;> omega
  refine ⟨⟨h1, v, h3.kept hg (hne _ (by omega)), h4.kept hg ?_⟩, (hg.block _ h5.lt (hne _ (by omega))).trans h5, h6.grown hg h6.size fun j e => by rcases hr j e with h | h <;> omega, Nat.le_trans h7 hg.size⟩
  rcases h4.2 with ⟨rfl, _⟩ | ⟨g, cap, cur, rfl, hg1, hgb, _⟩
  · exact .inl rfl
  · refine .inr fun e' => ?_
    rcases hr g (by simpa [Value.ownBlock] using e'.symm) with h | ⟨_, o, ho, hc⟩
    · omega
    · rw [hgb] at ho; cases ho; cases hc

def writeW (f : Form) (a : Art) (w : World) : World := ((w.alloc (.cells f.cells 60)).alloc (.cells a.cells 24)).alloc (.cells #[.slice none 0 0] 37)
theorem writeW_size (f : Form) (a : Art) (w : World) : (writeW f a w).heap.size = w.heap.size + 3 := by simp [writeW]
theorem writeW_inv (f : Form) (a : Art) (w : World) : WrInv w f a [] (splitWorld f.text 32 (writeW f a w)) := by
  have hb := splitWorld_below f.text 32 (writeW f a w)
  have hz := writeW_size f a w
  have hk : ∀ k, k < w.heap.size + 3 → (splitWorld f.text 32 (writeW f a w)).heap[k]? = (writeW f a w).heap[k]? := fun k hk => hb.block k (by omega)
  have hold : Below w.heap.size w (writeW f a w) := by
    unfold writeW
    exact ((((Below.refl _ w).alloc (Nat.le_refl _) _).alloc (by simp) _).alloc (by first | (simp; done) | (simp; omega)) _)
  have h1 : ∀ (u : World) (o : Obj) (n : Nat), u.heap.size = n → (u.alloc o).heap[n]? = some o := fun u o n h => by rw [← h]; exact heap_alloc_new u o
  have h2 : ∀ (u : World) (o : Obj) (n : Nat), n < u.heap.size → (u.alloc o).heap[n]? = u.heap[n]? := fun u o n h => Below.heap_alloc _ _ _ h
  refine ⟨⟨Nat.zero_le _, .slice none 0 0, ?_, World.ownsRow_nil _ _ _ _⟩, ?_, hold.trans (hb.mono hold.size), by rw [splitWorld_size, hz]; omega⟩
  · refine (hk _ (by omega)).trans ?_
    unfold writeW
    exact h1 _ _ _ (by simp)
  · refine (hk _ (by omega)).trans ?_
    unfold writeW
    rw [h2 _ _ _ (by first | (simp; done) | (simp; omega))]
    exact h1 _ _ _ (by simp)

theorem WrInv.put {w : World} {f : Form} {a : Art} {pre : List ByteArray} {x wd : ByteArray} {A A1 A2 : World} {v v' : Value} {T : TypeId}
    (hk : pre.length < f.parts.length) (hwd : wd = wordOf a f.parts[pre.length])
    (hp : Boxed A (w.heap.size + 1 + 1) 37 v) (hr : A.ownsRow (w.heap.size + 6) 9 1 v pre.length (cellsS (wordsA a (f.parts.take pre.length)))) (hart : ArtAt A (w.heap.size + 1) a) (hold : Below w.heap.size w A) (htop : w.heap.size + 6 ≤ A.heap.size)
    (hb1 : Below A.heap.size A A1)
    (ho : A2.ownsRow (w.heap.size + 6) 9 1 v' (pre.length + 1) (cellsS (wordsA a (f.parts.take pre.length)) ++ [.string wd])) (hg : (A1.alloc (.cells #[.string wd] T)).grownBy A2 v.ownBlock) :
    Boxed A2 (w.heap.size + 1 + 1) 37 v ∧ WrInv w f a (pre ++ [x]) (A2.setCell ⟨w.heap.size + 1 + 1, 0, none⟩ v') ∧ KeepsOthers A (A2.setCell ⟨w.heap.size + 1 + 1, 0, none⟩ v') ∧ KeepsThree (w.heap.size + 1 + 1 + 1) (w.heap.size + 1 + 1 + 1 + 1) (w.heap.size + 1 + 1 + 1 + 2) A (A2.setCell ⟨w.heap.size + 1 + 1, 0, none⟩ v') := by
  have hrow := fun r e => ownBlock_le hr r e
  have hrow' := fun r e => ownBlock_le ho r e
  have hkeep : ∀ k, k < w.heap.size + 6 → A2.heap[k]? = A.heap[k]? := fun k hk => by
    rw [hg.block k (by have := hb1.size; simp; omega) (fun e => by have := hrow k e.symm; omega), Below.heap_alloc _ _ _ (by have := hb1.size; omega), hb1.block k (by omega)]
  have hset : ∀ k, k < w.heap.size + 6 → k ≠ w.heap.size + 1 + 1 → (A2.setCell ⟨w.heap.size + 1 + 1, 0, none⟩ v').heap[k]? = A.heap[k]? := fun k hk hne => by
    rw [Below.heap_setCell _ _ _ _ hne, hkeep k hk]
  have hbox : Boxed A2 (w.heap.size + 1 + 1) 37 v := (hkeep _ (by omega)).trans hp
  refine ⟨hbox, ⟨⟨by simp; omega, v', hbox.set v', ?_⟩, (hset _ (by omega) (by omega)).trans hart, ?_, ?_⟩, ?_, hset _ (by omega) (by omega), hset _ (by omega) (by omega), hset _ (by omega) (by omega)⟩
  · have h1 := ho.kept (grownBy_setCell' A2 (w.heap.size + 1 + 1) v') (.inr fun e => by have := hrow' _ e; omega)
    rw [cellsS_snoc, hwd] at h1
    rw [List.length_append, List.length_singleton, List.take_succ_eq_append_getElem hk]
    unfold wordsA at h1 ⊢
    rw [List.map_append]
    exact h1
  · exact (((hold.trans (hb1.mono hold.size)).alloc (by have := hold.size; have := hb1.size; omega) _).grown hg (by have := hold.size; have := hb1.size; simp; omega) (fun j e => by have := hrow j e; have := hold.size; omega)).setCell (by show w.heap.size ≤ w.heap.size + 1 + 1; omega) _
  · have h1 := hb1.size
    have h2 := hg.size
    rw [World.size_setCell]
    simp at h2
    omega
  · refine ((keepsOthers_below hb1).trans ((KeepsOthers.alloc _ _).trans (KeepsOthers.of_grownBy hg fun j o e hj => ?_))).trans (KeepsOthers.setCell _ _ _)
    have hr1 := ownsRow_below hr hb1
    rcases (hr1.alloc (.cells #[.string wd] T)).2 with ⟨rfl, _⟩ | ⟨g, cap, cur, rfl, _, hgb, _⟩
    · simp [Value.ownBlock] at e
    · obtain rfl : g = j := by simpa [Value.ownBlock] using e
      rw [hgb] at hj; cases hj; rfl

theorem join_blank (c : UInt8) : ∀ (l : List (List UInt8)), Lib.join l [c] = joinL c l
  | [] => rfl
  | [a] => by simp [Lib.join, joinL, List.intercalate, List.intersperse]
  | x :: y :: r => by
    have ih := join_blank c (y :: r)
    simp only [joinL, ← ih]
    unfold Lib.join
    simp [List.intercalate, List.intersperse]

theorem joinL_len (c : UInt8) (M : Nat) : ∀ l : List (List UInt8), (∀ x ∈ l, x.length ≤ M) → (joinL c l).length ≤ l.length * (M + 1)
  | [], _ => Nat.zero_le _
  | [a], h => by
    have := h a (by simp)
    simp only [joinL, List.length_cons, List.length_nil]
    omega
  | a :: b :: t, h => by
    have ih := joinL_len c M (b :: t) (fun x hx => h x (List.mem_cons_of_mem _ hx))
    have := h a (by simp)
    simp only [joinL, List.length_append, List.length_cons, Nat.add_mul] at ih ⊢
    omega

theorem write_join (f : Form) (a : Art) : (⟨(Lib.join ((wordsA a f.parts).map (·.data.toList)) (⟨#[32]⟩ : ByteArray).data.toList).toArray⟩ : ByteArray) = writeOf f a := by
  show (⟨(Lib.join ((wordsA a f.parts).map (·.data.toList)) [32]).toArray⟩ : ByteArray) = _
  rw [join_blank]
  unfold writeOf wordsA
  rw [List.map_map]
  rfl

theorem write_len (f : Form) (a : Art) (h7 : f.parts.length ≤ 7) (hs : ∀ p ∈ f.parts, (wordOf a p).size ≤ 1000000) : (Lib.join ((wordsA a f.parts).map (·.data.toList)) (⟨#[32]⟩ : ByteArray).data.toList).length ≤ 140737488355328 := by
  show (Lib.join ((wordsA a f.parts).map (·.data.toList)) [32]).length ≤ _
  rw [join_blank]
  have h := joinL_len 32 1000000 ((wordsA a f.parts).map (·.data.toList)) (fun x hx => by
    unfold wordsA at hx
    rw [List.map_map] at hx
    obtain ⟨p, hp, rfl⟩ := List.mem_map.1 hx
    have := hs p hp
    simpa using this)
  have hl : ((wordsA a f.parts).map (·.data.toList)).length = f.parts.length := by simp [wordsA]
  rw [hl] at h
  have : f.parts.length * (1000000 + 1) ≤ 7 * (1000000 + 1) := Nat.mul_le_mul_right _ h7
  omega

attribute [-go_sem] Builtin.append_

set_option maxRecDepth 100000 in
set_option maxHeartbeats 8000000 in
theorem write_any (f : Form) (hf : f ∈ formsL) (kd : Int) (cd ot nm : ByteArray) (yr am pc nu dy ls wh : Int) (w : World) (hL : Lay w) (hbd : ArtBd ⟨kd, cd, ot, nm, yr, am, pc, nu, dy, ls, wh⟩) (hsm : ∀ p ∈ f.parts, (wordOf ⟨kd, cd, ot, nm, yr, am, pc, nu, dy, ls, wh⟩ p).size ≤ 1000000) :
    Calls Tryz.prog 38 #[.agg #[.int .i64 f.kind, .int .i64 f.what, .string f.text], .agg #[.int .i64 kd, .string cd, .string ot, .string nm, .int .i64 yr, .int .i64 am, .int .i64 pc, .int .i64 nu, .int .i64 dy, .int .i64 ls, .int .i64 wh]] w fun e w' => e = .returned (.string (writeOf f ⟨kd, cd, ot, nm, yr, am, pc, nu, dy, ls, wh⟩)) ∧ Below w.heap.size w w' := by
  refine (callsIn_wide (n := 0)).1 ?_
  obtain ⟨i0, hi, hz0, hz1, hz2⟩ := infoS_parts
  have hft := (forms_small f hf).1
  have hm7 := (forms_small f hf).2
  have HF := Lib.hid hf
  have HL := Lib.hid hL
  have HBD := Lib.hid hbd
  have HSM := Lib.hid hsm
  obtain ⟨res, hres⟩ : ∃ res, res = writeOf f ⟨kd, cd, ot, nm, yr, am, pc, nu, dy, ls, wh⟩ := ⟨_, rfl⟩
  rw [← hres]
  have HRES := Lib.hid hres
  clear hf hL hbd hsm hres
  refine callsIn_of_wp_marks Tryz.func38 rfl trivial ?_ rfl
  simp only [Tryz.ntmps38, List.size_toArray, List.length_cons, List.length_nil, Nat.reduceAdd, Nat.reduceSub, Array.replicate_succ, Array.replicate_zero, List.push_toArray, List.append_toArray, List.nil_append, List.cons_append]
  gi_wp2_with (refine ⟨trivial, rfl, ?_⟩; gi_at_call 53; refine (callsIn_wide.2 (SplitSeq_any f.text 32 _)).mono ?_; rintro e w' ⟨rfl, rfl⟩)
  obtain ⟨W1, hW1⟩ : ∃ W1, W1 = splitWorld f.text 32 (writeW f ⟨kd, cd, ot, nm, yr, am, pc, nu, dy, ls, wh⟩ w) := ⟨_, rfl⟩
  have hinv : WrInv w f ⟨kd, cd, ot, nm, yr, am, pc, nu, dy, ls, wh⟩ [] W1 := by rw [hW1]; exact writeW_inv f _ w
  have hsp : SplitAt (w.heap.size + 1 + 1 + 1) 32 f.text W1 := by
    have := splitWorld_at f.text 32 (writeW f ⟨kd, cd, ot, nm, yr, am, pc, nu, dy, ls, wh⟩ w)
    rw [writeW_size] at this
    rw [hW1]; exact this
  have hsz : W1.heap.size = w.heap.size + 6 := by rw [hW1, splitWorld_size, writeW_size]
  have hg0 : splitWorld f.text 32 (((w.alloc (.cells #[.int .i64 f.kind, .int .i64 f.what, .string f.text] 60)).alloc (.cells #[.int .i64 kd, .string cd, .string ot, .string nm, .int .i64 yr, .int .i64 am, .int .i64 pc, .int .i64 nu, .int .i64 dy, .int .i64 ls, .int .i64 wh] 24)).alloc (.cells #[.slice none 0 0] 37)) = W1 := by rw [hW1]; rfl
  rw [hg0]
  clear hg0 hW1
  refine range_cell (gf := 93) (lb := #[.pointer (some ⟨w.heap.size + 1 + 1 + 1 + 1, 0, none⟩), .pointer (some ⟨w.heap.size + 1 + 1 + 1, 0, none⟩), .pointer (some ⟨w.heap.size + 1 + 1 + 1 + 2, 0, none⟩)]) rfl (enters_of Tryz.func93 (by kernel_rfl) rfl)
    (splitSeqC_in 32 f.text (w.heap.size + 1 + 1 + 1) _ hsp (by omega)) (by omega) keepsThree_t (keepsThree_b (by omega) (by omega) (by omega)) rfl
    (WrInv w f ⟨kd, cd, ot, nm, yr, am, pc, nu, dy, ls, wh⟩) (fun _ _ _ => False)
    (fun pre A B row h hg hr => h.step hg fun r e => Or.inr ⟨by have := (hr r e).1; omega, (hr r e).2⟩)
    (fun c pre A B row h hg hr => h.elim)
    (fun pre A B h hg => h.step hg fun r e => by cases e; exact Or.inl ⟨by omega, by omega⟩)
    hinv
    ?act ?assign ?body ?done ?stop
  case assign =>
    intro l x A K hK
    gi_wp2
    exact hK
  case body =>
    rintro l pre x A hpre ⟨⟨h1, v, h3, h4⟩, hart, hold, htop⟩
    obtain ⟨hk, rfl, hlit⟩ := next_part HF.out hpre
    obtain ⟨fd, hfd⟩ : ∃ fd, fd = f.parts[pre.length] := ⟨_, rfl⟩
    rw [← hfd] at hlit ⊢
    have hLA : Lay A := HL.out.below hold (Nat.le_refl _)
    have hwd : ∀ n W, Below A.heap.size A W → Hid (CallsIn (Fence.wide.inRound l) n Tryz.prog 54 #[.agg #[.int .i64 kd, .string cd, .string ot, .string nm, .int .i64 yr, .int .i64 am, .int .i64 pc, .int .i64 nu, .int .i64 dy, .int .i64 ls, .int .i64 wh], .string fd.text] W fun e w' => e = .returned (.string (wordOf ⟨kd, cd, ot, nm, yr, am, pc, nu, dy, ls, wh⟩ fd)) ∧ Below W.heap.size W w') := fun n W hW => Lib.hid (CallsIn.inRound l (callsIn_wide.2 (word_any ⟨kd, cd, ot, nm, yr, am, pc, nu, dy, ls, wh⟩ fd hlit W (hLA.below hW (Nat.le_refl _)) HBD.out)))
    have c3 := h3.cell
    have f3 := h3.frozen
    have s0 := art_cell hart 0
    simp only [Art.cells] at s0
    have s1 := art_cell hart 1
    simp only [Art.cells] at s1
    have s2 := art_cell hart 2
    simp only [Art.cells] at s2
    have s3 := art_cell hart 3
    simp only [Art.cells] at s3
    have s4 := art_cell hart 4
    simp only [Art.cells] at s4
    have s5 := art_cell hart 5
    simp only [Art.cells] at s5
    have s6 := art_cell hart 6
    simp only [Art.cells] at s6
    have s7 := art_cell hart 7
    simp only [Art.cells] at s7
    have s8 := art_cell hart 8
    simp only [Art.cells] at s8
    have s9 := art_cell hart 9
    simp only [Art.cells] at s9
    have s10 := art_cell hart 10
    simp only [Art.cells] at s10
    obtain ⟨ao, cap, rfl, hcap, _⟩ := owns_gen h4
    obtain ⟨wd, hwd0⟩ : ∃ wd, wd = wordOf ⟨kd, cd, ot, nm, yr, am, pc, nu, dy, ls, wh⟩ fd := ⟨_, rfl⟩
    rw [← hwd0] at hwd
    have HWDE := Lib.hid (hwd0.trans (by rw [hfd]) : wd = wordOf ⟨kd, cd, ot, nm, yr, am, pc, nu, dy, ls, wh⟩ f.parts[pre.length])
    clear hwd0
    obtain ⟨x0, hx0⟩ : ∃ x0 : ByteArray, x0 = fd.text := ⟨_, rfl⟩
    rw [← hx0] at hwd ⊢
    have HWD := Lib.hid hwd
    clear hx0
    have H3 := Lib.hid h3
    have H4 := Lib.hid h4
    have HART := Lib.hid hart
    have HOLD := Lib.hid hold
    clear hwd hart hold h3 h4 hLA hlit hfd
    have HSZ : Hid (∀ A1, Below A.heap.size A A1 → w.heap.size + 6 ≤ A1.heap.size) := Lib.hid fun A1 h => Nat.le_trans htop h.size
    gi_wp2
    gi_region_with (first
      | (refine ⟨trivial, rfl, ?_⟩; gi_at_call 54; refine ((HWD.out _ _ (by first | exact Below.refl _ _ | exact (Below.refl _ _).drew)).out).mono ?_; rintro e A1 ⟨rfl, hb0⟩; (have hb1 : Below A.heap.size A A1 := (by first | exact hb0 | exact ((Below.refl A.heap.size A).drew).trans hb0)); have r3 := (boxed_below H3.out hb1).cell; have g3 := (boxed_below H3.out hb1).frozen; have hrow := ownsRow_below H4.out hb1; have hz := HSZ.out _ hb1; have ra := ((boxed_below H3.out hb1).alloc (.cells #[.string wd] 9)).cell; have ga := ((boxed_below H3.out hb1).alloc (.cells #[.string wd] 9)).frozen; (obtain ⟨v', w1, hrun, hown', hgrow, _⟩ := run_append_own (P := Tryz.prog) (A1.alloc (.cells #[.string wd] 9)) (w.heap.size + 6) 37 37 9 i0 (.string ⟨#[]⟩) 1 16 Tryz.underlying37 hi hz0 hz1 hz2 rfl (by decide) (.slice ao pre.length cap) pre.length _ (hrow.alloc _) ⟨A1.heap.size, 0, none⟩ 1 1 [.string wd] rfl (cell_one_new _ _ _) (by simp [Value.oneCell']) (by unfold maxLen; omega) (by omega) (by simp; omega)); (obtain ⟨g', cap', rfl⟩ := ownsRow_succ hown'); (obtain ⟨p1, p2, p3, p4⟩ := WrInv.put (x := x0) hk HWDE.out H3.out H4.out HART.out HOLD.out htop hb1 hown' hgrow); have q3 := p1.cell; have q4 := p1.frozen; have P2 := Lib.hid p2; have P3 := Lib.hid p3; have P4 := Lib.hid p4; clear hb1 hb0 hown' hgrow p1 p2 p3 p4 hrow))
    all_goals (first | exact ⟨P3.out, P4.out, P2.out⟩ | (gi_wp2; exact ⟨P3.out, P4.out, P2.out⟩))
  case done =>
    rintro D A hD ⟨⟨h1, v, h3, h4⟩, hart, hold, htop⟩ hK
    have hwl : (wordsB 32 f.text).length = f.parts.length := by rw [form_words HF.out, List.length_map]
    rw [hwl, List.take_length] at h4
    have hpos : 0 < f.parts.length := by
      have := (forms_parts f HF.out).1
      cases hfp : f.parts with
      | nil => rw [hfp] at this; cases this
      | cons a t => simp
    obtain ⟨k, hk⟩ : ∃ k, f.parts.length = k + 1 := ⟨f.parts.length - 1, by omega⟩
    have hwk : (wordsA ⟨kd, cd, ot, nm, yr, am, pc, nu, dy, ls, wh⟩ f.parts).length = k + 1 := by simp [wordsA, hk]
    rw [hk] at h4
    obtain ⟨g, cap, rfl⟩ := ownsRow_succ h4
    have hcells : ∀ (j : Nat) x, (wordsA ⟨kd, cd, ot, nm, yr, am, pc, nu, dy, ls, wh⟩ f.parts)[j]? = some x → A.cell? ⟨g, 0 + j, none⟩ = some (.string x) := fun j x hx => by
      have hj := (List.getElem?_eq_some_iff.1 hx).1
      rw [Nat.zero_add, h4.cellAt j (by omega)]
      unfold cellsS
      rw [List.getElem?_map, hx]; rfl
    have hglt : g < A.heap.size := (h4.lt g rfl).2
    have hcap : k + 1 ≤ cap := by obtain ⟨ao, c1, e, hc, _⟩ := owns_gen h4; injection e with e1 e2 e3; omega
    have HJ := Lib.hid ((Tryz.strings_Join g 0 cap (wordsA ⟨kd, cd, ot, nm, yr, am, pc, nu, dy, ls, wh⟩ f.parts) ⟨#[32]⟩ A hcells hglt (by omega) (by omega) (write_len f _ hm7 HSM.out)))
    rw [write_join, hwk, ← HRES.out] at HJ
    have c3 := h3.cell
    have f3 := h3.frozen
    have HKK := Lib.hid hK
    have HOLD := Lib.hid hold
    clear hK h4 hcells hold h1 hwk hart h3
    gi_wp2_with (refine ⟨trivial, rfl, ?_⟩; gi_at_call 55; refine (callsIn_wide.2 HJ.out).mono ?_; rintro e A1 ⟨rfl, hb⟩)
    have hK2 := (keepsOthers_below hb).same _ _ HKK.out rfl
    have hg := grownBy_putObj' A1 D (.deferred none)
    refine ⟨by simp, .inl ⟨_, _, rfl, run_takeDeferred hK2, ?_⟩⟩
    refine ⟨.string res, by simp [results, Tryz.results38, go_sem], rfl, ?_⟩
    exact (HOLD.out.trans (hb.mono HOLD.out.size)).grown hg (Nat.le_trans HOLD.out.size hb.size) fun j e => by cases e; omega
  case stop =>
    rintro D c pre A hD hpre h hK
    exact h.elim

end Go.Proofs.YtdgckdmgplpobaaGreatDoor
