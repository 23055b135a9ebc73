/- The contract of strings.Lines: its iterator hands on the lines of the text in order, each with its line feed. -/
import Derived.Test.YtionnohajnnfmaaGreatDoorTxM
import Derived.Test.YtionnohajnnfmaaGreatDoorSplit
import Derived.Test.YtionnohajnnfmaaGreatDoorShelfT
import Derived.RegionIn
import Derived.BigRegionIn
namespace Go.Proofs.YtionnohajnnfmaaGreatDoor
open Go.RowKit Go.Lib Go.Proofs

attribute [local go_sem] Oper.semAt_some

/-- The lines of a text, as texts. -/
def linesB (s : ByteArray) : List ByteArray := (linesL s.data.toList).map txt

theorem lines_hit {t : ByteArray} {i : Nat} (h : indexByte t.data.toList 10 = i) : i < t.size ∧ linesB t = t.extract 0 (i + 1) :: linesB (t.extract (i + 1) t.size) := by
  rcases indexByte_cases t.data.toList 10 with ⟨h1, _⟩ | ⟨k, h1, h2, h3, h4⟩
  · rw [h] at h1; omega
  · have : k = i := by rw [h] at h1; omega
    subst this
    refine ⟨by rw [size_list]; exact h2, ?_⟩
    have e : t.data.toList = t.data.toList.take k ++ 10 :: t.data.toList.drop (k + 1) := by rw [← h4, List.take_append_drop]
    have e1 : t.data.toList[k] = 10 := by
      have := List.drop_eq_getElem_cons h2
      rw [h4] at this
      injection this with h _
      exact h.symm
    have e2 : t.data.toList.take (k + 1) = t.data.toList.take k ++ [10] := by rw [List.take_succ_eq_append_getElem h2, e1]
    unfold linesB
    rw [extract_front, extract_back, txt_list, e2]
    have e3 := linesL_app (r := t.data.toList.drop (k + 1)) h3
    rw [← e] at e3
    rw [e3, List.map_cons]

theorem lines_no {t : ByteArray} (h : indexByte t.data.toList 10 = -1) (hz : 0 < t.size) : linesB t = [t] := by
  rcases indexByte_cases t.data.toList 10 with ⟨_, h2⟩ | ⟨k, h1, _⟩
  · unfold linesB
    rw [linesL_no h2 (fun e => by rw [size_list, e] at hz; simp at hz)]
    simp [txt_back]
  · rw [h] at h1; omega

theorem lines_end {t : ByteArray} (hz : t.size = 0) : linesB t = [] := by
  have : t.data.toList = [] := List.length_eq_zero_iff.1 (by rw [← size_list]; exact hz)
  unfold linesB
  rw [this]
  rfl

set_option maxRecDepth 100000 in
set_option maxHeartbeats 4000000 in
theorem linesC_in (s : ByteArray) (b : Nat) (w : World) (h : Boxed w b 9 (.string s)) (hs : s.size ≤ 1000000000) :
    SeqCell Tryz.prog 102 #[.pointer (some ⟨b, 0, none⟩)] (fun x : ByteArray => .string x) b (KeepsThree b b b) (linesB s) w := by
  intro l J Jx W hW hJ hY h0
  have hS : Boxed W b 9 (.string s) := boxed_below h hW
  have HJ := Lib.hid hJ
  have HY := Lib.hid hY
  have c0 := hS.cell
  have HS := Lib.hid hS
  clear hJ hY hS h
  refine callsIn_of_wp Tryz.func102 rfl trivial ?_ rfl
  simp only [Tryz.ntmps102, List.size_toArray, List.length_cons, List.length_nil, Nat.reduceAdd, Nat.reduceSub, Array.replicate_succ, Array.replicate_zero, List.push_toArray, List.append_toArray, List.nil_append, List.cons_append]
  gi_wp2
  gi_loopw [3] (fun _ wr => ∃ (pre : List ByteArray) (t : ByteArray), Hid (linesB s = pre ++ linesB t) ∧ Hid (Boxed wr b 9 (.string t)) ∧ Hid (J pre wr) ∧ t.size ≤ 1000000000) (fun _ wr => lenAt b wr)
  case atStart => exact ⟨[], s, Lib.hid rfl, HS, Lib.hid h0, hs⟩
  case round =>
    obtain ⟨pre, t, HW, HT, HJp, htz⟩ := hrel
    have d0 := HT.out.cell
    have f0 := HT.out.frozen
    by_cases hz : t.size = 0
    · have HWW := Lib.hid (lines_end hz)
      have hz' : (t.size : Int) ≤ 0 := by omega
      clear hz
      gi_wp2
      go_end0
      exact ⟨⟨_, rfl⟩, .inl (by have := HJp.out; rw [HW.out, HWW.out, List.append_nil]; exact this)⟩
    · have hz' : (0 : Int) < (t.size : Int) := by omega
      have hz2 : 0 < t.size := by omega
      obtain ⟨i, hi⟩ : ∃ i, indexByte t.data.toList 10 = i := ⟨_, rfl⟩
      have hcase : i = -1 ∨ ∃ k : Nat, i = k := by
        rcases indexByte_cases t.data.toList 10 with ⟨h1, _⟩ | ⟨k, h1, _⟩
        · exact Or.inl (by omega)
        · exact Or.inr ⟨k, by omega⟩
      have hx : ∀ (n : Nat) (W : World), CallsIn Fence.wide n Tryz.prog 103 #[.string t, .int .u8 10] W fun e w' => e = .returned (.int .i64 i) ∧ w' = W := fun n W => callsIn_wide.2 (by have := Tryz.strings_IndexByte t 10 W; rwa [show ((10 : Int).toNat.toUInt8) = (10 : UInt8) from rfl, hi] at this)
      rcases hcase with rfl | ⟨k, rfl⟩
      · have hw : linesB t = [t] := lines_no hi hz2
        obtain ⟨fn, tmps, assign, body, hy, hR⟩ := HY.out pre t (wr.setCell ⟨b, 0, none⟩ (.string ⟨#[]⟩)) (by rw [HW.out, hw]; exact List.prefix_refl _) (HJ.out _ _ _ HJp.out (grownBy_setCell' wr b _))
        have HX := Lib.hid hx
        have HWW := Lib.hid hw
        clear hi hw hx hz
        gi_wp2_with (refine ⟨trivial, rfl, ?_⟩; gi_at_call 103; refine (HX.out _ _).mono ?_; rintro e w' ⟨rfl, rfl⟩)
        refine ⟨rfl, hR.mono ?_⟩
        rintro e A (⟨rfl, hJA, hK⟩ | ⟨rfl, hJA⟩)
        · have hSA : Boxed A b 9 (.string ⟨#[]⟩) := hK.1.trans (HT.out.set _)
          have g0 := hSA.cell
          have HJA := Lib.hid hJA
          have HSA := Lib.hid hSA
          clear hJA hSA hK
          gi_wp2
          go_roundw
          case rel => exact ⟨pre ++ [t], ⟨#[]⟩, Lib.hid (by rw [HW.out, HWW.out, lines_end rfl]; simp), HSA, HJA, Nat.zero_le _⟩
          case measure => rw [lenAt_eq HSA.out.cell, lenAt_eq d0]; exact hz2
        · have HJA := Lib.hid hJA
          clear hJA
          gi_wp2
          refine bodyPost_ret (results_none rfl _ _ _) rfl ?_
          exact ⟨⟨_, rfl⟩, .inr ⟨pre ++ [t], by rw [HW.out, HWW.out]; exact List.prefix_refl _, HJA.out⟩⟩
      · obtain ⟨hk, hw⟩ := lines_hit hi
        have HX := Lib.hid hx
        have HWW := Lib.hid hw
        have hk0 : (0 : Int) ≤ (k : Int) := by omega
        have hk1 : (k : Int) + 1 ≤ (t.size : Int) := by omega
        have hk3 : (0 : Int) ≤ (k : Int) + 1 := by omega
        clear hi hw hx hz
        gi_wp2_with (refine ⟨trivial, rfl, ?_⟩; gi_at_call 103; refine (HX.out _ _).mono ?_; rintro e w' ⟨rfl, rfl⟩)
        gi_region
        obtain ⟨fn, tmps, assign, body, hy, hR⟩ := HY.out pre (t.extract 0 (k + 1)) (w'.setCell ⟨b, 0, none⟩ (.string (t.extract (k + 1) t.size))).drew (by rw [HW.out, HWW.out]; exact ⟨linesB (t.extract (k + 1) t.size), by simp⟩) (HJ.out _ _ _ HJp.out (grownBy_trans (grownBy_setCell' w' b _) (grownBy_below ((Below.refl _ _).drew))))
        gi_wp2
        refine ⟨rfl, hR.mono ?_⟩
        rintro e A (⟨rfl, hJA, hK⟩ | ⟨rfl, hJA⟩)
        · have hSA : Boxed A b 9 (.string (t.extract (k + 1) t.size)) := hK.1.trans (HT.out.set _)
          have g0 := hSA.cell
          have HJA := Lib.hid hJA
          have HSA := Lib.hid hSA
          have hz3 : (t.extract (k + 1) t.size).size < t.size := by rw [ByteArray.size_extract]; omega
          clear hJA hSA hK
          gi_wp2
          go_roundw
          case rel => exact ⟨pre ++ [t.extract 0 (k + 1)], t.extract (k + 1) t.size, Lib.hid (by rw [HW.out, HWW.out]; simp), HSA, HJA, by omega⟩
          case measure => rw [lenAt_eq HSA.out.cell, lenAt_eq d0]; exact hz3
        · have HJA := Lib.hid hJA
          clear hJA
          gi_wp2
          refine bodyPost_ret (results_none rfl _ _ _) rfl ?_
          exact ⟨⟨_, rfl⟩, .inr ⟨pre ++ [t.extract 0 (k + 1)], by rw [HW.out, HWW.out]; exact ⟨linesB (t.extract (k + 1) t.size), by simp⟩, HJA.out⟩⟩

/-- What Lines hands back, and its world: one new block. -/
def linesFn (b : Nat) : Value := .func (.func 102) #[] #[.pointer (some ⟨b, 0, none⟩)]

set_option maxHeartbeats 1000000 in
theorem Lines_any (s : ByteArray) (w : World) :
    Calls Tryz.prog 74 #[.string s] w fun e w' => e = .returned (linesFn w.heap.size) ∧ w' = w.alloc (.cells #[.string s] 9) := by
  go_enter Tryz.func74, Tryz.ntmps74
  go_wp2
  go_ret
  exact ⟨rfl, rfl⟩

end Go.Proofs.YtionnohajnnfmaaGreatDoor
