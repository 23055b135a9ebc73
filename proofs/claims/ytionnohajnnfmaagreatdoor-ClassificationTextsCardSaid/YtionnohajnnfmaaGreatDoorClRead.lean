/- Contracts of strings.Cut and TrimSuffix on a heading's line, of classification.readLines and of Parse on the text of a valid list; for texts of up to 12000 bytes. -/
import Derived.Test.YtionnohajnnfmaaGreatDoorLines
import Derived.Test.YtionnohajnnfmaaGreatDoorShelfT
import Derived.Test.YtionnohajnnfmaaGreatDoorTree
import Derived.Deep.QuietTactic
import Derived.BigQuiet
import Derived.RegionTactic
import Derived.BigRegion
namespace Go.Proofs.YtionnohajnnfmaaGreatDoor
open Go.RowKit Go.Lib Go.Proofs

attribute [local go_sem] Oper.semAt_some

/-- A line without its line feed. -/
def rowB (h : Head) : ByteArray := txt (h.1.data.toList ++ 32 :: h.2.data.toList)

theorem rowB_list (h : Head) : (rowB h).data.toList = h.1.data.toList ++ 32 :: h.2.data.toList := txt_list _
theorem rowB_size (h : Head) : (rowB h).size = h.1.size + h.2.size + 1 := by
  rw [size_list, rowB_list, size_list, size_list]; simp; omega
theorem lineB_size (h : Head) : (lineB h).size = h.1.size + h.2.size + 2 := by
  rw [lineB, txt_size, size_list, size_list]; simp [lineL]; omega

theorem trim_feed (x : List UInt8) : Lib.trimSuffix (x ++ [10]) [10] = x := by
  unfold Lib.trimSuffix
  rw [if_pos (by simp [Lib.hasSuffix])]
  simp

theorem trim_line (h : Head) (w : World) (hs : h.1.size + h.2.size ≤ 1000) : Calls Tryz.prog 76 #[.string (lineB h), .string ⟨#[10]⟩] w fun e w' => e = .returned (.string (rowB h)) ∧ w = w' := by
  refine (Tryz.strings_TrimSuffix (lineB h) ⟨#[10]⟩ w (by rw [lineB_size]; omega)).mono fun e w' ⟨h1, h2⟩ => ⟨?_, h2.symm⟩
  rw [h1]
  congr 2
  rw [lineB, txt_list, lineL_eq]
  exact congrArg txt (trim_feed _)

set_option maxHeartbeats 1000000 in
theorem lite_cut (h : Head) (hc : Clean h) (w : World) (hs : h.1.size + h.2.size ≤ 1000) : Calls Tryz.prog 104 #[.string (rowB h), .string ⟨#[32]⟩] w fun e w' => e = .returned (.tuple #[.string h.1, .string h.2, .bool true]) ∧ Below w.heap.size w w' := by
  have hx := Tryz.stringslite_Index_one (rowB h) 32 w
  have hi := blank_at hc
  rw [← rowB_list] at hi
  rw [show ((32 : UInt8)) = 32 from rfl, hi] at hx
  have hz := rowB_size h
  have e1 : (rowB h).extract 0 h.1.size = h.1 := bytes_ext (by
    rw [extract_list, rowB_list, size_list]; simp)
  have e2 : (rowB h).extract (h.1.size + 1) (rowB h).size = h.2 := by
    rw [extract_back, rowB_list, size_list]
    have : (h.1.data.toList ++ 32 :: h.2.data.toList).drop (h.1.data.toList.length + 1) = h.2.data.toList := by
      rw [← List.drop_drop, List.drop_left]; rfl
    rw [this, txt_back]
  obtain ⟨s, hsd⟩ : ∃ s, s = rowB h := ⟨_, rfl⟩
  rw [← hsd] at hx e1 e2 hz ⊢
  obtain ⟨a, d⟩ := h
  simp only at hx e1 e2 hz hs ⊢
  obtain ⟨k, hk⟩ : ∃ k, k = a.size := ⟨_, rfl⟩
  rw [← hk] at hx e1 e2 hz
  have hkz : (k : Int) ≤ 1000 := by omega
  have hk0 : (0 : Int) ≤ (k : Int) := by omega
  have hk1 : (k : Int) + 1 ≤ (s.size : Int) := by omega
  have hk2 : (k : Int) ≤ (s.size : Int) := by omega
  have hk3 : (0 : Int) ≤ (k : Int) + 1 := by omega
  have HX := Lib.hid hx
  have E1 := Lib.hid e1
  have E2 := Lib.hid e2
  clear hx e1 e2 hz hk hsd hi hc
  go_enter Tryz.func104, Tryz.ntmps104
  go_wp2_with fail
  refine (HX.out).mono ?_
  rintro e w' ⟨rfl, rfl⟩
  go_wp2
  go_region
  all_goals (go_wp2; go_ret3; exact ⟨by rw [E1.out, E2.out]; rfl, (Below.refl _ _).drew⟩)

set_option maxHeartbeats 1000000 in
theorem cut_any (h : Head) (hc : Clean h) (w : World) (hs : h.1.size + h.2.size ≤ 1000) : Calls Tryz.prog 75 #[.string (rowB h), .string ⟨#[32]⟩] w fun e w' => e = .returned (.tuple #[.string h.1, .string h.2, .bool true]) ∧ Below w.heap.size w w' := by
  have HC := Lib.hid (lite_cut h hc w hs)
  clear hc hs
  go_enter Tryz.func75, Tryz.ntmps75
  go_wp2_with fail
  refine (HC.out).mono ?_
  rintro e w' ⟨rfl, hb⟩
  go_wp2
  go_ret3
  exact ⟨rfl, hb⟩

/-- What readLines hands back. -/
def ReadPost (w : World) (hs : List Head) (e : Ending) (w' : World) : Prop :=
  ∃ v, e = .returned (.tuple #[v, .int .i64 0]) ∧ w'.ownsRow w.heap.size 37 2 v hs.length (cellsH hs) ∧ Below w.heap.size w w'

/-- The world of the loop between two rounds. -/
structure RInv (hs : List Head) (w : World) (b : Nat) (pre : List ByteArray) (W : World) : Prop where
  got : pre.length ≤ hs.length ∧ ∃ v, Boxed W (w.heap.size + 1 + 1) 25 v ∧ W.ownsRow (b + 1) 37 2 v pre.length (cellsH (hs.take pre.length))
  res : Boxed W w.heap.size 25 (.slice none 0 0)
  num : Boxed W (w.heap.size + 1) 3 (.int .i64 0)
  old : Below w.heap.size w W
  top : b + 1 ≤ W.heap.size

theorem RInv.step {hs : List Head} {w : World} {b : Nat} {pre : List ByteArray} {A B : World} {row : Option Nat} (h : RInv hs w b pre A) (hg : A.grownBy B row) (hb : w.heap.size + 1 + 1 < b)
    (hr : ∀ r, row = some r → (b ≤ r ∧ r < b + 1) ∨ (b ≤ r ∧ ∃ o : Obj, A.heap[r]? = some o ∧ o.isCells = false)) : RInv hs w b pre B := by
  obtain ⟨⟨h1, v, h3, h4⟩, h5, h5', h6, h7⟩ := h
  have hne : ∀ k, k < b → Option.some k ≠ row := fun k hk e => by
    rcases hr k e.symm with h | h <;> omega
  refine ⟨⟨h1, v, h3.kept hg (hne _ (by omega)), h4.kept hg ?_⟩, h5.kept hg (hne _ (by omega)), h5'.kept hg (hne _ (by omega)), h6.grown hg h6.size fun j e => by rcases hr j e with h | h <;> omega, Nat.le_trans h7 hg.size⟩
  rcases h4.2 with ⟨rfl, _⟩ | ⟨g, cap, cur, rfl, hg1, hgb, _⟩
  · exact .inl rfl
  · refine .inr fun e' => ?_
    rcases hr g (by simpa [Value.ownBlock] using e'.symm) with h | ⟨_, o, ho, hc⟩
    · omega
    · rw [hgb] at ho; cases ho; cases hc

/-- The world in which the loop begins. -/
def readWorld (s : ByteArray) (w : World) : World := (((w.alloc (.cells #[.slice none 0 0] 25)).alloc (.cells #[.int .i64 0] 3)).alloc (.cells #[.slice none 0 0] 25)).alloc (.cells #[.string s] 9)
theorem readWorld_size (s : ByteArray) (w : World) : (readWorld s w).heap.size = w.heap.size + 4 := by simp [readWorld]
theorem readWorld_box (s : ByteArray) (w : World) : Boxed (readWorld s w) (w.heap.size + 1 + 1 + 1) 9 (.string s) := by
  have := Boxed.new (((w.alloc (.cells #[.slice none 0 0] 25)).alloc (.cells #[.int .i64 0] 3)).alloc (.cells #[.slice none 0 0] 25)) 9 (.string s)
  rw [World.size_alloc, World.size_alloc, World.size_alloc] at this
  exact this
theorem readWorld_inv (hs : List Head) (s : ByteArray) (w : World) : RInv hs w (w.heap.size + 1 + 1 + 1) [] (readWorld s w) := by
  have b0 := (((Boxed.new w 25 (.slice none 0 0)).alloc (.cells #[.int .i64 0] 3)).alloc (.cells #[.slice none 0 0] 25)).alloc (.cells #[.string s] 9)
  have b1 := ((Boxed.new (w.alloc (.cells #[.slice none 0 0] 25)) 3 (.int .i64 0)).alloc (.cells #[.slice none 0 0] 25)).alloc (.cells #[.string s] 9)
  have b2 := (Boxed.new ((w.alloc (.cells #[.slice none 0 0] 25)).alloc (.cells #[.int .i64 0] 3)) 25 (.slice none 0 0)).alloc (.cells #[.string s] 9)
  rw [World.size_alloc] at b1
  rw [World.size_alloc, World.size_alloc] at b2
  exact ⟨⟨Nat.zero_le _, _, b2, World.ownsRow_nil _ _ _ _⟩, b0, b1, ((((Below.refl _ w).alloc (Nat.le_refl _) _).alloc (by simp) _).alloc (by simp; omega) _).alloc (by simp; omega) _, by rw [readWorld_size]; omega⟩

/-- What a round does to the world: calls that make memory, a new heading, the append. -/
theorem RInv.put {hs : List Head} {w : World} {b : Nat} {pre : List ByteArray} {x : ByteArray} {A A1 A2 : World} {h : Head} {v v' : Value} {T : TypeId}
    (hk : pre.length < hs.length) (hh : h = hs[pre.length]) (hbx : b = w.heap.size + 1 + 1 + 1)
    (hp : Boxed A (w.heap.size + 1 + 1) 25 v) (hr : A.ownsRow (b + 1) 37 2 v pre.length (cellsH (hs.take pre.length))) (hres : Boxed A w.heap.size 25 (.slice none 0 0)) (hnum : Boxed A (w.heap.size + 1) 3 (.int .i64 0)) (hold : Below w.heap.size w A) (htop : b + 1 ≤ A.heap.size)
    (hb1 : Below A.heap.size A A1)
    (ho : A2.ownsRow (b + 1) 37 2 v' (pre.length + 1) (cellsH (hs.take pre.length) ++ [.string h.1, .string h.2])) (hg : (A1.alloc (.cells #[.string h.1, .string h.2] T)).grownBy A2 v.ownBlock) :
    Boxed A2 (w.heap.size + 1 + 1) 25 v ∧ RInv hs w b (pre ++ [x]) (A2.setCell ⟨w.heap.size + 1 + 1, 0, none⟩ v') ∧ KeepsOthers A (A2.setCell ⟨w.heap.size + 1 + 1, 0, none⟩ v') ∧ KeepsThree b b b A (A2.setCell ⟨w.heap.size + 1 + 1, 0, none⟩ v') := by
  have hrow := fun r e => ownBlock_le hr r e
  have hrow' := fun r e => ownBlock_le ho r e
  have hkeep : ∀ k, k < b + 1 → A2.heap[k]? = A.heap[k]? := fun k hk => by
    rw [hg.block k (by have := hb1.size; simp; omega) (fun e => by have := hrow k e.symm; omega), Below.heap_alloc _ _ _ (by have := hb1.size; omega), hb1.block k (by omega)]
  have hset : ∀ k, k < b + 1 → k ≠ w.heap.size + 1 + 1 → (A2.setCell ⟨w.heap.size + 1 + 1, 0, none⟩ v').heap[k]? = A.heap[k]? := fun k hk hne => by
    rw [Below.heap_setCell _ _ _ _ hne, hkeep k hk]
  have hbox : Boxed A2 (w.heap.size + 1 + 1) 25 v := (hkeep _ (by omega)).trans hp
  have htk : hs.take (pre.length + 1) = hs.take pre.length ++ [h] := by rw [hh, List.take_succ_eq_append_getElem hk]
  refine ⟨hbox, ⟨⟨by simp; omega, v', hbox.set v', ?_⟩, (hset _ (by omega) (by omega)).trans hres, (hset _ (by omega) (by omega)).trans hnum, ?_, ?_⟩, ?_, hset _ (by omega) (by omega), hset _ (by omega) (by omega), hset _ (by omega) (by omega)⟩
  · have := ho.kept (grownBy_setCell' A2 (w.heap.size + 1 + 1) v') (.inr fun e => by have := hrow' _ e; omega)
    rw [List.length_append, List.length_singleton, htk, ← cellsH_app]
    exact this
  · exact (((hold.trans (hb1.mono hold.size)).alloc (by have := hold.size; have := hb1.size; omega) _).grown hg (by have := hold.size; have := hb1.size; simp; omega) (fun j e => by have := hrow j e; have := hold.size; omega)).setCell (by show w.heap.size ≤ w.heap.size + 1 + 1; omega) _
  · have h1 := hb1.size
    have h2 := hg.size
    rw [World.size_setCell]
    simp at h2
    omega
  · refine ((keepsOthers_below hb1).trans ((KeepsOthers.alloc _ _).trans (KeepsOthers.of_grownBy hg fun j o e hj => ?_))).trans (KeepsOthers.setCell _ _ _)
    have hr1 := ownsRow_below hr hb1
    rcases (hr1.alloc (.cells #[.string h.1, .string h.2] T)).2 with ⟨rfl, _⟩ | ⟨g, cap, cur, rfl, _, hgb, _⟩
    · simp [Value.ownBlock] at e
    · obtain rfl : g = j := by simpa [Value.ownBlock] using e
      rw [hgb] at hj; cases hj; rfl

theorem linesB_text {hs : List Head} (hc : ∀ h ∈ hs, Clean h) : linesB (textB hs) = hs.map lineB := by
  unfold linesB textB
  rw [txt_list, linesL_text hs hc, List.map_map]
  rfl

theorem next_line {hs : List Head} {pre : List ByteArray} {x : ByteArray} (hp : (pre ++ [x]) <+: hs.map lineB) : ∃ hk : pre.length < hs.length, x = lineB hs[pre.length] := by
  obtain ⟨r, hr⟩ := hp
  have h1 := congrArg List.length hr
  simp at h1
  have hk : pre.length < hs.length := by omega
  refine ⟨hk, ?_⟩
  have h2 := congrArg (fun l => l[pre.length]?) hr
  simp [hk] at h2
  exact h2

set_option maxRecDepth 100000 in
set_option maxHeartbeats 4000000 in
theorem clreadLines_any (hs : List Head) (w : World) (hc : ∀ h ∈ hs, Clean h) (hsm : ∀ h ∈ hs, h.1.size + h.2.size ≤ 1000) (hlen : hs.length ≤ 1000) (hz : (textB hs).size ≤ 1000000) :
    Calls Tryz.prog 37 #[.string (textB hs)] w (ReadPost w hs) := by
  refine (callsIn_wide (n := 0)).1 ?_
  obtain ⟨i0, hi, hz0, hz1, hz2⟩ := infoH_parts
  have HLB := Lib.hid (linesB_text hc)
  have HCL := Lib.hid hc
  have HSM := Lib.hid hsm
  obtain ⟨s, hs0⟩ : ∃ s, s = textB hs := ⟨_, rfl⟩
  rw [← hs0] at HLB hz ⊢
  clear hc hsm hs0
  refine callsIn_of_wp_marks Tryz.func37 rfl trivial ?_ rfl
  simp only [Tryz.ntmps37, List.size_toArray, List.length_cons, List.length_nil, Nat.reduceAdd, Nat.reduceSub, Array.replicate_succ, Array.replicate_zero, List.push_toArray, List.append_toArray, List.nil_append, List.cons_append]
  gi_wp2_with (refine ⟨trivial, rfl, ?_⟩; gi_at_call 74; refine (callsIn_wide.2 (Lines_any s _)).mono ?_; rintro e w' ⟨rfl, rfl⟩)
  have hsz := readWorld_size s w
  have hinv := readWorld_inv hs s w
  have hbx := readWorld_box s w
  have hg0 : readWorld s w = (((w.alloc (.cells #[.slice none 0 0] 25)).alloc (.cells #[.int .i64 0] 3)).alloc (.cells #[.slice none 0 0] 25)).alloc (.cells #[.string s] 9) := rfl
  rw [← hg0]
  clear hg0
  refine range_cell (gf := 102) (lb := #[.pointer (some ⟨w.heap.size + 1 + 1 + 1, 0, none⟩)]) rfl (enters_of Tryz.func102 (by kernel_rfl) rfl)
    (linesC_in s (w.heap.size + 1 + 1 + 1) _ hbx (by omega)) (by omega) keepsThree_t (keepsThree_b (by omega) (by omega) (by omega)) rfl
    (RInv hs w (w.heap.size + 1 + 1 + 1)) (fun _ _ _ => False)
    (fun pre A B row h hg hr => h.step hg (by omega) fun r e => Or.inr ⟨by have := (hr r e).1; omega, (hr r e).2⟩)
    (fun c pre A B row h hg hr => h.elim)
    (fun pre A B h hg => h.step hg (by omega) fun r e => by cases e; exact Or.inl ⟨by omega, by omega⟩)
    hinv
    (fun x => { tmps := #[.string s, undef, .pointer (some ⟨w.heap.size, 0, none⟩), .pointer (some ⟨w.heap.size + 1, 0, none⟩), .pointer (some ⟨w.heap.size + 1 + 1, 0, none⟩), .string x, undef, undef, undef, .string s, linesFn (w.heap.size + 1 + 1 + 1), .string x, undef, undef, undef, undef, undef, undef, undef, undef, undef, undef, undef, undef, undef, undef, undef, undef, undef, undef, undef], defers := [] }) ?assign ?body ?done ?stop
  case assign =>
    intro l x A K hK
    gi_wp2
    exact hK
  case body =>
    rintro l pre x A hpre ⟨⟨h1, v, h3, h4⟩, h5, h5', h6, h7⟩
    rw [HLB.out] at hpre
    obtain ⟨hk, rfl⟩ := next_line hpre
    have hcl := HCL.out hs[pre.length] (List.getElem_mem hk)
    have hsm := HSM.out hs[pre.length] (List.getElem_mem hk)
    obtain ⟨h, hh⟩ : ∃ h, h = hs[pre.length] := ⟨_, rfl⟩
    rw [← hh] at hcl hsm ⊢
    have HH := Lib.hid hh
    have HT : ∀ n, Hid (CallsIn (Fence.wide.inRound l) n Tryz.prog 76 #[.string (lineB h), .string ⟨#[10]⟩] A fun e w' => e = .returned (.string (rowB h)) ∧ A = w') := fun n => Lib.hid (CallsIn.inRound l (callsIn_wide.2 (trim_line h A hsm)))
    have HCU : ∀ n, Hid (CallsIn (Fence.wide.inRound l) n Tryz.prog 75 #[.string (rowB h), .string ⟨#[32]⟩] A fun e w' => e = .returned (.tuple #[.string h.1, .string h.2, .bool true]) ∧ Below A.heap.size A w') := fun n => Lib.hid (CallsIn.inRound l (callsIn_wide.2 (cut_any h hcl A hsm)))
    have c3 := h3.cell
    have f3 := h3.frozen
    obtain ⟨ao, cap, rfl, hcap, _⟩ := owns_gen h4
    have H3 := Lib.hid h3
    have H4 := Lib.hid h4
    have H5 := Lib.hid h5
    have H5' := Lib.hid h5'
    have H6 := Lib.hid h6
    obtain ⟨c, d⟩ := h
    have hsz2 : ∀ A1, Below A.heap.size A A1 → w.heap.size + 1 + 1 + 1 + 1 ≤ A1.heap.size := fun A1 h => Nat.le_trans h7 h.size
    have HSZ := Lib.hid hsz2
    clear hsz2 hh h6 h1 hcl hsm
    gi_wp2_with (first
      | (refine ⟨trivial, rfl, ?_⟩; gi_at_call 76; refine ((HT _).out).mono ?_; rintro e A1 ⟨rfl, rfl⟩)
      | (refine ⟨trivial, rfl, ?_⟩; gi_at_call 75; refine ((HCU _).out).mono ?_; rintro e A1 ⟨rfl, hb1⟩; have r3 := (boxed_below h3 hb1).cell; have g3 := (boxed_below h3 hb1).frozen; have hrow := ownsRow_below h4 hb1; have hz := HSZ.out _ hb1; have HB1 := Lib.hid hb1; clear hb1)
      | (gi_at_builtin; refine wpListIn_append_own _ rfl _ _ 25 rfl (w.heap.size + 1 + 1 + 1 + 1) 37 i0 (.agg #[.string ⟨#[]⟩, .string ⟨#[]⟩]) 2 32 Tryz.underlying25 hi hz0 hz1 hz2 rfl (by decide) _ _ _ rfl (hrow.alloc _) ⟨A1.heap.size, 0, none⟩ 1 1 [.string c, .string d] rfl rfl (two_new _ _ _ _) (two_str _ _) (by unfold maxLen; omega) (by omega) (by simp; omega) ?_; intro v' w1 hown' hgrow _; obtain ⟨g', cap', rfl⟩ := ownsRow_succ hown'; obtain ⟨p1, p2, p3, p4⟩ := RInv.put (x := lineB (c, d)) hk HH.out rfl H3.out H4.out H5.out H5'.out H6.out h7 HB1.out hown' hgrow; have q3 := p1.cell; have q4 := p1.frozen))
    exact ⟨p3, p4, p2⟩
  case done =>
    rintro D A hD ⟨⟨h1, v, h3, h4⟩, h5, h5', h6, h7⟩ hK
    rw [HLB.out, List.length_map, List.take_length] at h4
    have c3 := h3.cell
    have c2 := h5.cell
    have f2 := h5.frozen
    have c5 := h5'.cell
    have f5 := h5'.frozen
    obtain ⟨ao, cap, rfl, hcap, _⟩ := owns_gen h4
    have HKK := Lib.hid hK
    have H4 := Lib.hid h4
    clear h1 hK h4
    have hDw : w.heap.size + 4 ≤ D := by omega
    gi_wp2
    have hK1 := (KeepsOthers.setCell A ⟨w.heap.size, 0, none⟩ (.slice ao hs.length cap)).same _ _ HKK.out rfl
    have hK2 := (KeepsOthers.setCell (A.setCell ⟨w.heap.size, 0, none⟩ (.slice ao hs.length cap)) ⟨w.heap.size + 1, 0, none⟩ (.int .i64 0)).same _ _ hK1 rfl
    have hg := grownBy_putObj' ((A.setCell ⟨w.heap.size, 0, none⟩ (.slice ao hs.length cap)).setCell ⟨w.heap.size + 1, 0, none⟩ (.int .i64 0)) D (.deferred none)
    have hb0 := ((h5.set (.slice ao hs.length cap)).kept (grownBy_setCell' _ (w.heap.size + 1) (.int .i64 0)) (fun e => by injection e; omega)).kept hg (fun e => by injection e; omega)
    have hb1 := ((h5'.kept (grownBy_setCell' A w.heap.size (.slice ao hs.length cap)) (fun e => by injection e; omega)).set (.int .i64 0)).kept hg (fun e => by injection e; omega)
    have hrow := ((H4.out.kept (grownBy_setCell' A w.heap.size (.slice ao hs.length cap)) (.inr fun e => by have := ownBlock_le H4.out _ e; omega)).kept (grownBy_setCell' _ (w.heap.size + 1) (.int .i64 0)) (.inr fun e => by have := ownBlock_le H4.out _ e; omega))
    refine ⟨by simp, .inl ⟨_, _, rfl, run_takeDeferred hK2, ?_⟩⟩
    have hc0 := hb0.cell
    have hc1 := hb1.cell
    refine ⟨.tuple #[.slice ao hs.length cap, .int .i64 0], by simp [results, Tryz.results37, go_sem, hc0, hc1], .slice ao hs.length cap, rfl, ?_, ?_⟩
    · exact ownsRow_mono (ownsRow_putObj hrow _ hK2 rfl) (by omega)
    · exact ((h6.setCell (Nat.le_refl _) _).setCell (by show w.heap.size ≤ w.heap.size + 1; omega) _).grown hg (by rw [World.size_setCell, World.size_setCell]; exact h6.size) fun j e => by cases e; omega
  case stop =>
    rintro D c pre A hD hpre h hK
    exact h.elim

end Go.Proofs.YtionnohajnnfmaaGreatDoor
