/- Texts of one claim, merged: AuM, AaS. -/
import Derived.Test.YtknmgkjfopoinaaGreatDoorMG1
import Derived.Test.YtknmgkjfopoinaaGreatDoorMG4
import Derived.Test.YtknmgkjfopoinaaGreatDoorMDfP
import Derived.Test.YtknmgkjfopoinaaGreatDoorMAaP
import Derived.Test.YtknmgkjfopoinaaGreatDoorMSrcI
/- What closing a year's books makes, as mathematics: numbering postings in place, stores of three fields, open claims; of no function of the program; no condition. -/
set_option linter.unusedSimpArgs false
set_option linter.unusedVariables false
set_option linter.unusedSimpArgs false
set_option linter.unusedVariables false
namespace Go.Proofs.YtknmgkjfopoinaaGreatDoor
open Go.RowKit Go.Lib Go.Proofs

/-! ### Open claims -/
def openC : List Clm → Int
  | [] => 0
  | c :: l => c.opn + openC l
theorem openC_app : ∀ l m : List Clm, openC (l ++ m) = openC l + openC m
  | [], m => by simp [openC]
  | c :: l, m => by simp only [List.cons_append, openC, openC_app l m]; omega
theorem openC_in : ∀ {l : List Clm}, (∀ c ∈ l, ClmG c) → 0 ≤ openC l ∧ openC l ≤ 1000000000000 * (l.length : Int)
  | [], _ => by simp [openC]
  | c :: l, h => by
    have h1 := openC_in fun x hx => h x (List.mem_cons_of_mem _ hx)
    have h2 := h c List.mem_cons_self
    have h3 := h2.opn
    have h4 := h2.amt
    rw [openC, List.length_cons]
    omega
theorem prov_open {day : Int} : ∀ {l : List Clm}, (∀ c ∈ l, ClmG c) → 0 ≤ provM day l ∧ provM day l ≤ openC l
  | [], _ => by simp [openC, provM]
  | c :: l, h => by
    have h1 := prov_open (day := day) fun x hx => h x (List.mem_cons_of_mem _ hx)
    have h2 := prov_one_in (h c List.mem_cons_self) day
    rw [openC, provM]
    omega

/-! ### Numbering in place -/
theorem numP_app (d e : Int) : ∀ (n : Int) (l m : List Pst), numP n d e (l ++ m) = numP n d e l ++ numP (n + (l.length : Int)) d e m
  | n, [], m => by simp [numP]
  | n, p :: l, m => by
    rw [List.cons_append, numP, numP_app d e (n + 1) l m, numP, List.cons_append, List.length_cons]
    have : n + 1 + (l.length : Int) = n + ((l.length + 1 : Nat) : Int) := by omega
    rw [this]
/-- The first k postings numbered. -/
def midP (n d e : Int) (K : List Pst) (k : Nat) : List Pst := numP n d e (K.take k) ++ K.drop k
theorem mid_zero (n d e : Int) (K : List Pst) : midP n d e K 0 = K := by simp [midP, numP]
theorem mid_full (n d e : Int) (K : List Pst) : midP n d e K K.length = numP n d e K := by simp [midP]
theorem mid_len (n d e : Int) (K : List Pst) {k : Nat} (hk : k ≤ K.length) : (midP n d e K k).length = K.length := by
  unfold midP
  rw [List.length_append, numP_len, List.length_take, List.length_drop]
  omega
theorem mid_at (n d e : Int) (K : List Pst) {k : Nat} (hk : k < K.length) (h : k < (midP n d e K k).length) : (midP n d e K k)[k] = K[k] := by
  unfold midP at h ⊢
  have hl : (numP n d e (K.take k)).length = k := by rw [numP_len, List.length_take]; omega
  rw [List.getElem_append_right (by omega)]
  simp only [hl, Nat.sub_self, List.getElem_drop, Nat.add_zero]
theorem mid_step (n d e : Int) (K : List Pst) {k : Nat} (hk : k < K.length) : midP n d e K (k + 1) = (midP n d e K k).set k ⟨n + (k : Int) + 1, d, e, K[k].deb, K[k].crd, K[k].amt, K[k].par, K[k].ref⟩ := by
  unfold midP
  have hl : (numP n d e (K.take k)).length = k := by rw [numP_len, List.length_take]; omega
  have hl2 : (K.take k).length = k := by rw [List.length_take]; omega
  rw [List.take_succ_eq_append_getElem hk, numP_app, hl2, List.set_append_right _ _ (by omega), hl, Nat.sub_self, List.drop_eq_getElem_cons hk, List.set_cons_zero, numP, numP, List.append_assoc]
  rfl

/-! ### A store of three fields of an element of a row of the call's own -/
theorem row_three {L : List Pst} {k : Nat} (hk : k < L.length) (a b c : Int) {W : World} {base g n cap : Nat} {e : TypeId} (h : W.ownsRow base e 8 (.slice (some ⟨g, 0, none⟩) n cap) n (cellsL pstC L)) :
    (((W.setCell ⟨g, k * 8, none⟩ (.int .i64 a)).setCell ⟨g, k * 8 + 1, none⟩ (.int .i64 b)).setCell ⟨g, k * 8 + 2, none⟩ (.int .i64 c)).ownsRow base e 8 (.slice (some ⟨g, 0, none⟩) n cap) n (cellsL pstC (L.set k ⟨a, b, c, L[k].deb, L[k].crd, L[k].amt, L[k].par, L[k].ref⟩)) ∧ W.grownBy (((W.setCell ⟨g, k * 8, none⟩ (.int .i64 a)).setCell ⟨g, k * 8 + 1, none⟩ (.int .i64 b)).setCell ⟨g, k * 8 + 2, none⟩ (.int .i64 c)) (some g) := by
  have hl : (cellsL pstC L).length = L.length * 8 := cellsL_len pstF L
  have h1 := setCells_rowK [.int .i64 a, .int .i64 b, .int .i64 c] (k * 8) W (cellsL pstC L) (by rw [hl]; simp; omega) h
  have e1 : (cellsL pstC L).drop (k * 8) = pstC L[k] ++ (cellsL pstC L).drop (k * 8 + 8) := by
    rw [← cellsL_dropK pstF, List.drop_eq_getElem_cons hk, cellsL, cellsL_dropK pstF, show (k + 1) * 8 = k * 8 + 8 by omega]
  have e2 : (cellsL pstC L).drop (k * 8 + 3) = [.int .i64 L[k].deb, .int .i64 L[k].crd, .int .i64 L[k].amt, .int .i64 L[k].par, .int .i64 L[k].ref] ++ (cellsL pstC L).drop (k * 8 + 8) := by
    rw [← List.drop_drop, e1]
    rfl
  have e3 : (cellsL pstC L).take (k * 8) ++ [.int .i64 a, .int .i64 b, .int .i64 c] ++ (cellsL pstC L).drop (k * 8 + 3) = cellsL pstC (L.set k ⟨a, b, c, L[k].deb, L[k].crd, L[k].amt, L[k].par, L[k].ref⟩) := by
    rw [cellsL_put pstF L k _ hk, e2]
    simp [pstC]
  have h2 := h1.1
  rw [show k * 8 + [Value.int .i64 a, .int .i64 b, .int .i64 c].length = k * 8 + 3 from rfl, e3] at h2
  exact ⟨h2, h1.2⟩
/-- A new block of postings is a row of the call's own. -/
theorem new_rowK {W : World} {base g : Nat} {e : TypeId} (L : List Pst) (cs : Array Value) (hcs : cs.toList = cellsL pstC L) (hg : W.heap[g]? = some (.cells cs e (0, 0))) (hb : base ≤ g) (hl : L.length ≤ 1000) : W.ownsRow base e 8 (.slice (some ⟨g, 0, none⟩) L.length L.length) L.length (cellsL pstC L) := by
  refine ⟨cellsL_len pstF L, Or.inr ⟨g, L.length, cs, rfl, hb, hg, Nat.le_refl _, by unfold maxLen; omega, ?_, ?_⟩⟩
  · rw [← Array.length_toList, hcs, cellsL_len pstF]
  · rw [hcs, List.take_of_length_le (by rw [cellsL_len pstF]; exact Nat.le_refl _)]

/-- A box of another type is no row of the call's own. -/
theorem own_ne {W : World} {base g n cap size b : Nat} {e t : TypeId} {xs : List Value} {cs : Array Value} {f : Nat × Nat} (h : W.ownsRow base e size (.slice (some ⟨g, 0, none⟩) n cap) n xs) (hb : W.heap[b]? = some (.cells cs t f)) (hne : t ≠ e) : b ≠ g := by
  rintro rfl
  rcases h.2 with ⟨h', _⟩ | ⟨g', cap', cur, h', _, hg, _⟩
  · simp at h'
  · simp only [Value.slice.injEq, Option.some.injEq, Addr.mk.injEq, and_true, true_and] at h'
    obtain ⟨rfl, rfl⟩ := h'
    rw [hb] at hg
    injection hg with hg
    injection hg with _ hg _
    exact hne hg
theorem own_ne2 {W : World} {base n size b : Nat} {v : Value} {e t : TypeId} {xs : List Value} {cs : Array Value} {f : Nat × Nat} (h : W.ownsRow base e size v n xs) (hb : W.heap[b]? = some (.cells cs t f)) (hne : t ≠ e) : some b ≠ v.ownBlock := by
  rcases h.2 with ⟨rfl, _⟩ | ⟨g', cap', cur, rfl, _, hg, _⟩
  · intro q; cases q
  · intro q
    have q2 : some b = some g' := q
    injection q2 with q2
    subst q2
    rw [hb] at hg
    injection hg with hg
    injection hg with _ hg _
    exact hne hg

end Go.Proofs.YtknmgkjfopoinaaGreatDoor

/- The source's Text and Code: a code of classification. -/
set_option linter.unusedSimpArgs false
set_option linter.unusedVariables false
namespace Go.Proofs.YtknmgkjfopoinaaGreatDoor
open Go.RowKit Go.Lib Go.Proofs

set_option maxRecDepth 100000 in
set_option maxHeartbeats 2000000 in
theorem sText_new {w : World} {tb : Nat} (L : List ByteArray) (cs : Array Value) (T : TypeId) {W : World} (hcs : cs.toList = L.map Value.string) (h : SI w tb W) (h0 : 0 < L.length) (h1 : L.length ≤ 1000) (m cap : Nat) (hm : m = L.length) (b : Nat) (hb : b = W.heap.size) :
    Calls Tryz.prog 67 #[.pointer (some ⟨tb, 0, none⟩), .slice (some ⟨b, 0, none⟩) m cap] (W.alloc (.cells cs T)) fun e w' => ∃ x, e = .returned (.string x) ∧ x ∈ L ∧ SI w tb w' ∧ (W.alloc (.cells cs T)).grownBy w' (some tb) := by
  have hx := heap_alloc_new W (.cells cs T)
  have HSI := Lib.hid (h.alloc (.cells cs T))
  obtain ⟨w1, hw1⟩ : ∃ W1, W1 = W.alloc (.cells cs T) := ⟨_, rfl⟩
  rw [← hw1] at hx HSI ⊢
  rw [← hb] at hx
  have HX := Lib.hid hx
  have hbt : b ≠ tb := by have := h.src.lt; omega
  have HCS := Lib.hid hcs
  have HM := Lib.hid hm
  have hm0 : 0 < m := by omega
  have hm1 : m ≤ 1000 := by omega
  clear hx hcs h h0 h1 hm hb hw1
  go_enter Tryz.func67, Tryz.ntmps67
  go_wp2_with fail
  refine (n_in HSI.out (m : Int) (by omega) (by omega)).mono ?_
  rintro e w2 ⟨r, rfl, r0, r1, hi2, hg2⟩
  obtain ⟨k, rfl⟩ : ∃ k : Nat, r = (k : Int) := ⟨r.toNat, by omega⟩
  have hkm : k < L.length := by rw [← HM.out]; omega
  have HI2 := Lib.hid hi2
  have HG2 := Lib.hid hg2
  have hx2 := obj_turn HX.out hg2 hbt
  have hc := obj_cell hx2 k
  have hck : cs[k]? = some (.string L[k]) := by
    rw [← Array.getElem?_toList, HCS.out, List.getElem?_map, List.getElem?_eq_getElem hkm]
    rfl
  rw [hck] at hc
  have HMEM := Lib.hid (List.getElem_mem hkm)
  obtain ⟨x, hx⟩ : ∃ x, x = L[k] := ⟨_, rfl⟩
  rw [← hx] at hc HMEM
  clear hi2 hg2 hx2 hck hx hkm HSI HX
  go_wp2
  go_ret
  exact ⟨x, rfl, HMEM.out, HI2.out, HG2.out⟩

def codes7 : List ByteArray := [⟨#[49]⟩, ⟨#[49, 46, 49]⟩, ⟨#[49, 46, 50]⟩, ⟨#[49, 46, 50, 46, 51]⟩, ⟨#[50]⟩, ⟨#[50, 46, 49, 48]⟩, ⟨#[50, 46, 57]⟩]
theorem codes7_lens : (codes7.map fun x => (partsN x).length) = [1, 2, 2, 3, 1, 2, 2] := by kernel_rfl
theorem codes7_ok : ∀ x ∈ codes7, 0 < (partsN x).length ∧ x.size ≤ 1000000 := fun x hx => by
  have h1 : (partsN x).length ∈ (codes7.map fun x => (partsN x).length) := List.mem_map.2 ⟨x, hx, rfl⟩
  rw [codes7_lens] at h1
  refine ⟨by simp only [List.mem_cons, List.mem_nil_iff, or_false] at h1; omega, ?_⟩
  unfold codes7 at hx
  simp only [List.mem_cons, List.mem_nil_iff, or_false] at hx
  rcases hx with rfl | rfl | rfl | rfl | rfl | rfl | rfl <;> decide

set_option maxRecDepth 100000 in
set_option maxHeartbeats 2000000 in
theorem sCode_in {w : World} {tb : Nat} {W : World} (h : SI w tb W) : Calls Tryz.prog 43 #[.pointer (some ⟨tb, 0, none⟩)] W fun e w' => ∃ x, e = .returned (.string x) ∧ (0 < (partsN x).length ∧ x.size ≤ 1000000) ∧ SI w tb w' ∧ W.grownBy w' (some tb) := by
  have HT := Lib.hid (fun b (hb : b = W.heap.size) => sText_new codes7 #[.string ⟨#[49]⟩, .string ⟨#[49, 46, 49]⟩, .string ⟨#[49, 46, 50]⟩, .string ⟨#[49, 46, 50, 46, 51]⟩, .string ⟨#[50]⟩, .string ⟨#[50, 46, 49, 48]⟩, .string ⟨#[50, 46, 57]⟩] 9 rfl h (by decide) (by decide) 7 7 rfl b hb)
  have HB := Lib.hid (grownBy_below (row := some tb) (below_alloc W (.cells #[.string ⟨#[49]⟩, .string ⟨#[49, 46, 49]⟩, .string ⟨#[49, 46, 50]⟩, .string ⟨#[49, 46, 50, 46, 51]⟩, .string ⟨#[50]⟩, .string ⟨#[50, 46, 49, 48]⟩, .string ⟨#[50, 46, 57]⟩] 9)))
  clear h
  go_enter Tryz.func43, Tryz.ntmps43
  go_wp2_with fail
  refine (HT.out _ rfl).mono ?_
  rintro e w1 ⟨x, rfl, hx, hi, hg⟩
  have HX := Lib.hid (codes7_ok x hx)
  have HI := Lib.hid hi
  have HG := Lib.hid (grownBy_trans HB.out hg)
  clear hi hg hx HT HB
  go_wp2
  go_ret
  exact ⟨x, rfl, HX.out, HI.out, HG.out⟩

end Go.Proofs.YtknmgkjfopoinaaGreatDoor
