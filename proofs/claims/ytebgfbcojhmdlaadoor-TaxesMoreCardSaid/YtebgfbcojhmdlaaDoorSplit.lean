/- The contract of strings.SplitSeq at a separator of one byte: its iterator hands on the words of the text in order. -/
import Derived.Test.YtebgfbcojhmdlaaDoorSeq
import Derived.Test.YtebgfbcojhmdlaaDoorWords
import Derived.Test.YtebgfbcojhmdlaaDoorShelfB
namespace Go.Proofs.YtebgfbcojhmdlaaDoor
open Go.RowKit Go.Lib Go.Proofs

attribute [local go_sem] Oper.semAt_some

/-- The length of the text in a block's first cell. -/
def lenAt (b : Nat) (W : World) : Nat := match W.cell? ⟨b, 0, none⟩ with
  | some (.string t) => t.size
  | _ => 0
theorem lenAt_eq {b : Nat} {W : World} {t : ByteArray} (h : W.cell? ⟨b, 0, none⟩ = some (.string t)) : lenAt b W = t.size := by unfold lenAt; rw [h]

theorem split_hit {c : UInt8} {t : ByteArray} {i : Nat} (h : indexByte t.data.toList c = i) : i < t.size ∧ wordsB c t = t.extract 0 i :: wordsB c (t.extract (i + 1) t.size) := by
  rcases indexByte_cases t.data.toList c with ⟨h1, _⟩ | ⟨k, h1, h2, h3, h4⟩
  · rw [h] at h1; omega
  · have : k = i := by rw [h] at h1; omega
    subst this
    refine ⟨by rw [size_list]; exact h2, ?_⟩
    unfold wordsB
    rw [wordsL_hit h3 h4, List.map_cons, extract_front, extract_back, txt_list]

theorem split_no {c : UInt8} {t : ByteArray} (h : indexByte t.data.toList c = -1) : wordsB c t = [t] := by
  rcases indexByte_cases t.data.toList c with ⟨_, h2⟩ | ⟨k, h1, _⟩
  · unfold wordsB
    rw [wordsL_no h2]; simp [txt_back]
  · rw [h] at h1; omega

/-- The three blocks that the closure of SplitSeq has captured. -/
structure SplitAt (b : Nat) (c : UInt8) (t : ByteArray) (W : World) : Prop where
  s : Boxed W b 9 (.string t)
  sep : Boxed W (b + 1) 9 (.string ⟨#[c]⟩)
  save : Boxed W (b + 2) 3 (.int .i64 0)

theorem SplitAt.of {b : Nat} {c : UInt8} {t : ByteArray} {A B : World} (h : SplitAt b c t A) (k : KeepsThree b (b + 1) (b + 2) A B) : SplitAt b c t B := ⟨k.1.trans h.s, k.2.1.trans h.sep, k.2.2.trans h.save⟩
theorem SplitAt.below {b : Nat} {c : UInt8} {t : ByteArray} {A B : World} (h : SplitAt b c t A) (k : Below A.heap.size A B) : SplitAt b c t B := h.of ⟨k.block _ h.s.lt, k.block _ h.sep.lt, k.block _ h.save.lt⟩
theorem SplitAt.set {b : Nat} {c : UInt8} {t : ByteArray} {A : World} (h : SplitAt b c t A) (u : ByteArray) : SplitAt b c u (A.setCell ⟨b, 0, none⟩ (.string u)) :=
  ⟨h.s.set _, (Below.heap_setCell A _ _ _ (by simp)).trans h.sep, (Below.heap_setCell A _ _ _ (by simp)).trans h.save⟩

set_option maxRecDepth 100000 in
set_option maxHeartbeats 4000000 in
theorem splitSeqC_in (c : UInt8) (s : ByteArray) (b : Nat) (w : World) (h : SplitAt b c s w) (hs : s.size ≤ 1000000000) :
    SeqCell Tryd.prog 49 #[.pointer (some ⟨b + 1, 0, none⟩), .pointer (some ⟨b, 0, none⟩), .pointer (some ⟨b + 2, 0, none⟩)] (fun x : ByteArray => .string x) b (KeepsThree b (b + 1) (b + 2)) (wordsB c s) w := by
  intro l J Jx W hW hJ hY h0
  have hS : SplitAt b c s W := h.below hW
  have HJ := Lib.hid hJ
  have HY := Lib.hid hY
  have c0 := hS.s.cell
  have c1 := hS.sep.cell
  have c2 := hS.save.cell
  have HS := Lib.hid hS
  clear hJ hY hS h
  have hone : (⟨#[c]⟩ : ByteArray).size = 1 := rfl
  refine callsIn_of_wp Tryd.func49 rfl trivial ?_ rfl
  simp only [Tryd.ntmps49, List.size_toArray, List.length_cons, List.length_nil, Nat.reduceAdd, Nat.reduceSub, Array.replicate_succ, Array.replicate_zero, List.push_toArray, List.append_toArray, List.nil_append, List.cons_append]
  gi_wp2
  gi_loopw [7] (fun _ wr => ∃ (pre : List ByteArray) (t : ByteArray), Hid (wordsB c s = pre ++ wordsB c t) ∧ Hid (SplitAt b c t wr) ∧ Hid (J pre wr) ∧ t.size ≤ 1000000000) (fun _ wr => lenAt b wr)
  case atStart => exact ⟨[], s, Lib.hid rfl, HS, Lib.hid h0, hs⟩
  case round =>
    obtain ⟨pre, t, HW, HT, HJp, htz⟩ := hrel
    have d0 := HT.out.s.cell
    have d1 := HT.out.sep.cell
    have d2 := HT.out.save.cell
    have f0 := HT.out.s.frozen
    obtain ⟨i, hi⟩ : ∃ i, indexByte t.data.toList c = i := ⟨_, rfl⟩
    have hcase : i = -1 ∨ ∃ k : Nat, i = k := by
      rcases indexByte_cases t.data.toList c with ⟨h1, _⟩ | ⟨k, h1, _⟩
      · exact Or.inl (by omega)
      · exact Or.inr ⟨k, by omega⟩
    have hx : ∀ (n : Nat) (W : World), CallsIn Fence.wide n Tryd.prog 51 #[.string t, .string ⟨#[c]⟩] W fun e w' => e = .returned (.int .i64 i) ∧ w' = W := fun n W => callsIn_wide.2 (by have := Tryd.strings_Index_one t c W; rwa [hi] at this)
    rcases hcase with rfl | ⟨k, rfl⟩
    · have hw : wordsB c t = [t] := split_no hi
      obtain ⟨fn, tmps, assign, body, hy, hR⟩ := HY.out pre t wr (by rw [HW.out, hw]; exact List.prefix_refl _) HJp.out
      have HX := Lib.hid hx
      have HWW := Lib.hid hw
      clear hi hw hx
      gi_wp2_with (refine ⟨trivial, rfl, ?_⟩; gi_at_call 51; refine (HX.out _ _).mono ?_; rintro e w' ⟨rfl, rfl⟩)
      refine ⟨rfl, hR.mono ?_⟩
      rintro e A (⟨rfl, hJA, hK⟩ | ⟨rfl, hJA⟩)
      · have HJA := Lib.hid hJA
        clear hJA
        gi_wp2
        go_end0
        exact ⟨⟨_, rfl⟩, .inl (by rw [HW.out, HWW.out]; exact HJA.out)⟩
      · have HJA := Lib.hid hJA
        clear hJA
        gi_wp2
        go_end0
        exact ⟨⟨_, rfl⟩, .inr ⟨pre ++ [t], by rw [HW.out, HWW.out]; exact List.prefix_refl _, HJA.out⟩⟩
    · obtain ⟨hk, hw⟩ := split_hit hi
      obtain ⟨fn, tmps, assign, body, hy, hR⟩ := HY.out pre (t.extract 0 k) wr (by rw [HW.out, hw]; exact ⟨wordsB c (t.extract (k + 1) t.size), by simp⟩) HJp.out
      have HX := Lib.hid hx
      have HWW := Lib.hid hw
      have hk0 : (0 : Int) ≤ (k : Int) := by omega
      have hk1 : (k : Int) ≤ (t.size : Int) := by omega
      have hk2 : (k : Int) + 1 ≤ (t.size : Int) := by omega
      clear hi hw hx
      gi_wp2_with (refine ⟨trivial, rfl, ?_⟩; gi_at_call 51; refine (HX.out _ _).mono ?_; rintro e w' ⟨rfl, rfl⟩)
      refine ⟨rfl, hR.mono ?_⟩
      rintro e A (⟨rfl, hJA, hK⟩ | ⟨rfl, hJA⟩)
      · have hSA := HT.out.of hK
        have g0 := hSA.s.cell
        have g1 := hSA.sep.cell
        have g2 := hSA.save.cell
        have e0 := hSA.s.frozen
        have HJA := Lib.hid hJA
        have HSA := Lib.hid hSA
        clear hJA hSA hK
        have hz : (t.extract (k + 1) t.size).size < t.size := by rw [ByteArray.size_extract]; omega
        gi_wp2
        go_roundw
        case rel => exact ⟨pre ++ [t.extract 0 k], t.extract (k + 1) t.size, Lib.hid (by rw [HW.out, HWW.out]; simp), Lib.hid (HSA.out.set _), Lib.hid (HJ.out _ _ _ HJA.out (grownBy_setCell' A b _)), by omega⟩
        case measure => rw [lenAt_eq (HSA.out.set _).s.cell, lenAt_eq d0]; exact hz
      · have HJA := Lib.hid hJA
        clear hJA
        gi_wp2
        refine bodyPost_ret (results_none rfl _ _ _) rfl ?_
        exact ⟨⟨_, rfl⟩, .inr ⟨pre ++ [t.extract 0 k], by rw [HW.out, HWW.out]; exact ⟨wordsB c (t.extract (k + 1) t.size), by simp⟩, HJA.out⟩⟩

/-- What SplitSeq hands back, and its world: three new blocks. -/
def splitWorld (s : ByteArray) (c : UInt8) (w : World) : World := ((w.alloc (.cells #[.string s] 9)).alloc (.cells #[.string ⟨#[c]⟩] 9)).alloc (.cells #[.int .i64 0] 3)

theorem splitWorld_at (s : ByteArray) (c : UInt8) (w : World) : SplitAt w.heap.size c s (splitWorld s c w) := by
  have e1 : (w.alloc (.cells #[.string s] 9)).heap.size = w.heap.size + 1 := by simp
  have e2 : ((w.alloc (.cells #[.string s] 9)).alloc (.cells #[.string ⟨#[c]⟩] 9)).heap.size = w.heap.size + 2 := by simp
  refine ⟨((Boxed.new w _ _).alloc _).alloc _, ?_, ?_⟩
  · have := (Boxed.new (w.alloc (.cells #[.string s] 9)) 9 (.string ⟨#[c]⟩)).alloc (.cells #[.int .i64 0] 3)
    rw [e1] at this; exact this
  · have := Boxed.new ((w.alloc (.cells #[.string s] 9)).alloc (.cells #[.string ⟨#[c]⟩] 9)) 3 (.int .i64 0)
    rw [e2] at this; exact this
theorem splitWorld_below (s : ByteArray) (c : UInt8) (w : World) : Below w.heap.size w (splitWorld s c w) := (((Below.refl _ _).alloc (Nat.le_refl _) _).alloc (by simp) _).alloc (by simp; omega) _
theorem splitWorld_size (s : ByteArray) (c : UInt8) (w : World) : (splitWorld s c w).heap.size = w.heap.size + 3 := by simp [splitWorld]
theorem splitWorld_others (s : ByteArray) (c : UInt8) (w : World) : KeepsOthers w (splitWorld s c w) := ((KeepsOthers.alloc _ _).trans (KeepsOthers.alloc _ _)).trans (KeepsOthers.alloc _ _)

def splitFn (b : Nat) : Value := .func (.func 49) #[] #[.pointer (some ⟨b + 1, 0, none⟩), .pointer (some ⟨b, 0, none⟩), .pointer (some ⟨b + 2, 0, none⟩)]

set_option maxHeartbeats 1000000 in
theorem splitSeq_any (s : ByteArray) (c : UInt8) (w : World) :
    Calls Tryd.prog 43 #[.string s, .string ⟨#[c]⟩, .int .i64 0] w fun e w' => e = .returned (splitFn w.heap.size) ∧ w' = splitWorld s c w := by
  go_enter Tryd.func43, Tryd.ntmps43
  go_wp2
  go_ret
  exact ⟨rfl, rfl⟩
set_option maxHeartbeats 1000000 in
theorem SplitSeq_any (s : ByteArray) (c : UInt8) (w : World) :
    Calls Tryd.prog 38 #[.string s, .string ⟨#[c]⟩] w fun e w' => e = .returned (splitFn w.heap.size) ∧ w' = splitWorld s c w := by
  go_enter Tryd.func38, Tryd.ntmps38
  go_wp2_with fail
  refine (splitSeq_any s c w).mono ?_
  rintro e w' ⟨rfl, rfl⟩
  go_wp2
  go_ret
  exact ⟨rfl, rfl⟩

end Go.Proofs.YtebgfbcojhmdlaaDoor
