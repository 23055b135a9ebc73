/- The source's Text and Code: a code of classification. -/
import Derived.Test.YtebgfbcojhmdlaaDoorAaP
import Derived.Test.YtebgfbcojhmdlaaDoorSrcI
set_option linter.unusedSimpArgs false
set_option linter.unusedVariables false
namespace Go.Proofs.YtebgfbcojhmdlaaDoor
open Go.RowKit Go.Lib Go.Proofs

set_option maxRecDepth 100000 in
set_option maxHeartbeats 2000000 in
theorem sText_new {w : World} {tb : Nat} (L : List ByteArray) (cs : Array Value) (T : TypeId) {W : World} (hcs : cs.toList = L.map Value.string) (h : SI w tb W) (h0 : 0 < L.length) (h1 : L.length ≤ 1000) (m cap : Nat) (hm : m = L.length) (b : Nat) (hb : b = W.heap.size) :
    Calls Tryd.prog 20 #[.pointer (some ⟨tb, 0, none⟩), .slice (some ⟨b, 0, none⟩) m cap] (W.alloc (.cells cs T)) fun e w' => ∃ x, e = .returned (.string x) ∧ x ∈ L ∧ SI w tb w' ∧ (W.alloc (.cells cs T)).grownBy w' (some tb) := by
  have hx := heap_alloc_new W (.cells cs T)
  have HSI := Lib.hid (h.alloc (.cells cs T))
  obtain ⟨w1, hw1⟩ : ∃ W1, W1 = W.alloc (.cells cs T) := ⟨_, rfl⟩
  rw [← hw1] at hx HSI ⊢
  rw [← hb] at hx
  have HX := Lib.hid hx
  have hbt : b ≠ tb := by have := h.src.lt; omega
  have HCS := Lib.hid hcs
  have HM := Lib.hid hm
  have hm0 : 0 < m := by omega
  have hm1 : m ≤ 1000 := by omega
  clear hx hcs h h0 h1 hm hb hw1
  go_enter Tryd.func20, Tryd.ntmps20
  go_wp2_with fail
  refine (n_in HSI.out (m : Int) (by omega) (by omega)).mono ?_
  rintro e w2 ⟨r, rfl, r0, r1, hi2, hg2⟩
  obtain ⟨k, rfl⟩ : ∃ k : Nat, r = (k : Int) := ⟨r.toNat, by omega⟩
  have hkm : k < L.length := by rw [← HM.out]; omega
  have HI2 := Lib.hid hi2
  have HG2 := Lib.hid hg2
  have hx2 := obj_turn HX.out hg2 hbt
  have hc := obj_cell hx2 k
  have hck : cs[k]? = some (.string L[k]) := by
    rw [← Array.getElem?_toList, HCS.out, List.getElem?_map, List.getElem?_eq_getElem hkm]
    rfl
  rw [hck] at hc
  have HMEM := Lib.hid (List.getElem_mem hkm)
  obtain ⟨x, hx⟩ : ∃ x, x = L[k] := ⟨_, rfl⟩
  rw [← hx] at hc HMEM
  clear hi2 hg2 hx2 hck hx hkm HSI HX
  go_wp2
  go_ret
  exact ⟨x, rfl, HMEM.out, HI2.out, HG2.out⟩

def codes7 : List ByteArray := [⟨#[49]⟩, ⟨#[49, 46, 49]⟩, ⟨#[49, 46, 50]⟩, ⟨#[49, 46, 50, 46, 51]⟩, ⟨#[50]⟩, ⟨#[50, 46, 49, 48]⟩, ⟨#[50, 46, 57]⟩]
theorem codes7_lens : (codes7.map fun x => (partsN x).length) = [1, 2, 2, 3, 1, 2, 2] := by kernel_rfl
theorem codes7_ok : ∀ x ∈ codes7, 0 < (partsN x).length ∧ x.size ≤ 1000000 := fun x hx => by
  have h1 : (partsN x).length ∈ (codes7.map fun x => (partsN x).length) := List.mem_map.2 ⟨x, hx, rfl⟩
  rw [codes7_lens] at h1
  refine ⟨by simp only [List.mem_cons, List.mem_nil_iff, or_false] at h1; omega, ?_⟩
  unfold codes7 at hx
  simp only [List.mem_cons, List.mem_nil_iff, or_false] at hx
  rcases hx with rfl | rfl | rfl | rfl | rfl | rfl | rfl <;> decide

set_option maxRecDepth 100000 in
set_option maxHeartbeats 2000000 in
theorem sCode_in {w : World} {tb : Nat} {W : World} (h : SI w tb W) : Calls Tryd.prog 10 #[.pointer (some ⟨tb, 0, none⟩)] W fun e w' => ∃ x, e = .returned (.string x) ∧ (0 < (partsN x).length ∧ x.size ≤ 1000000) ∧ SI w tb w' ∧ W.grownBy w' (some tb) := by
  have HT := Lib.hid (fun b (hb : b = W.heap.size) => sText_new codes7 #[.string ⟨#[49]⟩, .string ⟨#[49, 46, 49]⟩, .string ⟨#[49, 46, 50]⟩, .string ⟨#[49, 46, 50, 46, 51]⟩, .string ⟨#[50]⟩, .string ⟨#[50, 46, 49, 48]⟩, .string ⟨#[50, 46, 57]⟩] 9 rfl h (by decide) (by decide) 7 7 rfl b hb)
  have HB := Lib.hid (grownBy_below (row := some tb) (below_alloc W (.cells #[.string ⟨#[49]⟩, .string ⟨#[49, 46, 49]⟩, .string ⟨#[49, 46, 50]⟩, .string ⟨#[49, 46, 50, 46, 51]⟩, .string ⟨#[50]⟩, .string ⟨#[50, 46, 49, 48]⟩, .string ⟨#[50, 46, 57]⟩] 9)))
  clear h
  go_enter Tryd.func10, Tryd.ntmps10
  go_wp2_with fail
  refine (HT.out _ rfl).mono ?_
  rintro e w1 ⟨x, rfl, hx, hi, hg⟩
  have HX := Lib.hid (codes7_ok x hx)
  have HI := Lib.hid hi
  have HG := Lib.hid (grownBy_trans HB.out hg)
  clear hi hg hx HT HB
  go_wp2
  go_ret
  exact ⟨x, rfl, HX.out, HI.out, HG.out⟩

end Go.Proofs.YtebgfbcojhmdlaaDoor
