/- Texts of one claim, merged: CmpI, SrpO, SrpL, SrpI, SrpS, RsO, RsP, ClnPrs, RsT. -/
import Derived.Test.YtoccnindkimjdaaMBase
import Derived.Test.YtoccnindkimjdaaMRsN
import Derived.Laws.IdiomCopy
import Derived.Shelf.RegionOpenPlain
import Derived.Deep.RegionHeld3
import Derived.Deep.DeepCutAuto
import Derived.Test.YtoccnindkimjdaaMRsM
import Derived.Test.YtoccnindkimjdaaMOwnO
/- The contract of Go's cmp.Compare for ints. -/
set_option linter.unusedSimpArgs false
set_option linter.unusedVariables false
namespace Go.Proofs.Ytoccnindkimjdaa
open Go.RowKit Go.Lib Go.Proofs

def cmpI (a b : Int) : Int := if a < b then -1 else if b < a then 1 else 0

set_option maxHeartbeats 400000 in
theorem cmpNaN_no (a : Int) (w : World) : Calls Try.prog 79 #[.int .i64 a] w fun e w' => e = .returned (.bool false) ∧ w = w' := by
  go_enter Try.func79, Try.ntmps79
  go_wp2
  go_ret
  exact ⟨rfl, rfl⟩

set_option maxHeartbeats 1000000 in
theorem cmpInt_any (a b : Int) (w : World) : Calls Try.prog 60 #[.int .i64 a, .int .i64 b] w fun e w' => e = .returned (.int .i64 (cmpI a b)) ∧ w = w' := by
  have HN := Lib.hid cmpNaN_no
  rcases Int.lt_trichotomy a b with h | h | h
  · have hc : cmpI a b = -1 := if_pos h
    rw [hc]
    clear hc
    go_enter Try.func60, Try.ntmps60
    go_wp2_with (go_at_call 79; refine (HN.out _ _).mono ?_; rintro e w' ⟨rfl, rfl⟩)
    go_ret
    exact ⟨rfl, rfl⟩
  · have hc : cmpI a b = 0 := by unfold cmpI; rw [if_neg (by omega), if_neg (by omega)]
    rw [hc]
    clear hc
    subst h
    go_enter Try.func60, Try.ntmps60
    go_wp2_with (go_at_call 79; refine (HN.out _ _).mono ?_; rintro e w' ⟨rfl, rfl⟩)
    go_ret
    exact ⟨rfl, rfl⟩
  · have hc : cmpI a b = 1 := by unfold cmpI; rw [if_neg (by omega), if_pos h]
    rw [hc]
    clear hc
    have h2 : ¬ a < b := by omega
    go_enter Try.func60, Try.ntmps60
    go_wp2_with (go_at_call 79; refine (HN.out _ _).mono ?_; rintro e w' ⟨rfl, rfl⟩)
    go_ret
    exact ⟨rfl, rfl⟩

end Go.Proofs.Ytoccnindkimjdaa

/- The order of postings by their day: the closure of booked. -/
set_option linter.unusedSimpArgs false
set_option linter.unusedVariables false
namespace Go.Proofs.Ytoccnindkimjdaa
open Go.RowKit Go.Lib Go.Proofs

def pstCmp (x y : Pst) : Int := cmpI x.day y.day

set_option maxRecDepth 100000 in
set_option maxHeartbeats 4000000 in
theorem rsbookedC_any (x y : Pst) (w : World) : Calls Try.prog 59 #[.agg (pstC x).toArray, .agg (pstC y).toArray] w fun e w' => e = .returned (.int .i64 (pstCmp x y)) ∧ Below w.heap.size w w' := by
  obtain ⟨a0, a1, a2, a3, a4, a5, a6, a7⟩ := x
  obtain ⟨b0, b1, b2, b3, b4, b5, b6, b7⟩ := y
  simp only [pstC, pstCmp]
  have HC := Lib.hid (fun W => cmpInt_any a1 b1 W)
  obtain ⟨c, hc⟩ : ∃ c, c = cmpI a1 b1 := ⟨_, rfl⟩
  rw [← hc] at HC ⊢
  obtain ⟨w0, hw0⟩ : ∃ W, W = (w.alloc (.cells #[.int .i64 a0, .int .i64 a1, .int .i64 a2, .int .i64 a3, .int .i64 a4, .int .i64 a5, .int .i64 a6, .int .i64 a7] 55)).alloc (.cells #[.int .i64 b0, .int .i64 b1, .int .i64 b2, .int .i64 b3, .int .i64 b4, .int .i64 b5, .int .i64 b6, .int .i64 b7] 55) := ⟨_, rfl⟩
  obtain ⟨bA, hbA⟩ : ∃ b, b = w.heap.size := ⟨_, rfl⟩
  have hx1 : w0.heap[bA]? = some (.cells #[.int .i64 a0, .int .i64 a1, .int .i64 a2, .int .i64 a3, .int .i64 a4, .int .i64 a5, .int .i64 a6, .int .i64 a7] 55 (0, 0)) := by rw [hw0, hbA]; exact alloc1_at w _ _
  have hx2 : w0.heap[bA + 1]? = some (.cells #[.int .i64 b0, .int .i64 b1, .int .i64 b2, .int .i64 b3, .int .i64 b4, .int .i64 b5, .int .i64 b6, .int .i64 b7] 55 (0, 0)) := by rw [hw0, hbA]; exact alloc2_at w _ _
  have HB0 : Hid (Below w.heap.size w w0) := Lib.hid (by rw [hw0]; exact below2 w _ _)
  have y1 := obj_cell hx1 1
  have z1 := obj_cell hx2 1
  simp at y1 z1
  have HW0 := Lib.hid hw0
  have HBA := Lib.hid hbA
  clear hc hx1 hx2 hw0 hbA
  go_enter Try.func59, Try.ntmps59
  go_upto_region 1 with fail
  rw [← HW0.out, ← HBA.out]
  go_wp2_with fail
  refine (HC.out _).mono ?_
  rintro e w1 ⟨rfl, rfl⟩
  go_wp2
  go_ret
  exact ⟨rfl, HB0.out⟩

end Go.Proofs.Ytoccnindkimjdaa

/- Insertion on lists of postings. -/
set_option linter.unusedSimpArgs false
set_option linter.unusedVariables false
namespace Go.Proofs.Ytoccnindkimjdaa
open Go.RowKit Go.Lib Go.Proofs

/-- The order of postings. -/
def pstLe (a b : Pst) : Prop := a.day ≤ b.day
theorem pstLe_of {a b : Pst} (h : ¬ pstCmp b a < 0) : pstLe a b := by
  unfold pstCmp cmpI at h
  unfold pstLe
  repeat' split at h
  all_goals omega
theorem pstLe_lt {a b : Pst} (h : pstCmp a b < 0) : pstLe a b := by
  unfold pstCmp cmpI at h
  unfold pstLe
  repeat' split at h
  all_goals omega
theorem pstLe_trans {a b c : Pst} (h : pstLe a b) (k : pstLe b c) : pstLe a c := by unfold pstLe at *; omega

theorem sorted_ins {A B : List Pst} {x : Pst} (h : (A ++ B).Pairwise pstLe) (hB : ∀ b ∈ B, pstLe x b) (hA : ∀ a ∈ A, pstLe a x) : (A ++ x :: B).Pairwise pstLe := by
  rw [List.pairwise_append] at h ⊢
  refine ⟨h.1, List.pairwise_cons.2 ⟨hB, h.2.1⟩, fun a ha z hz => ?_⟩
  rcases List.mem_cons.1 hz with rfl | hz
  · exact hA a ha
  · exact h.2.2 a ha z hz
theorem last_le {A B : List Pst} {x y : Pst} (h : ((A ++ [y]) ++ B).Pairwise pstLe) (hx : pstLe y x) : ∀ a ∈ A ++ [y], pstLe a x := by
  intro a ha
  rcases List.mem_append.1 ha with ha | ha
  · have h1 := (List.pairwise_append.1 h).1
    exact pstLe_trans ((List.pairwise_append.1 h1).2.2 a ha y (by simp)) hx
  · rw [List.mem_singleton] at ha; rw [ha]; exact hx

theorem set_in (P L : List Value) (p i : Nat) (hp : p = P.length) (u : Value) : (P ++ L).set (p + i) u = P ++ L.set i u := by
  subst hp
  rw [List.set_append_right _ _ (by omega), Nat.add_sub_cancel_left]

/-- The cells of two neighbours in a row. -/
theorem mid_cells (A R : List Pst) (y x : Pst) (q : Nat) (hq : q < 8) : (cellsL pstC (A ++ y :: x :: R))[A.length * 8 + q]? = (pstC y)[q]? ∧ (cellsL pstC (A ++ y :: x :: R))[(A.length + 1) * 8 + q]? = (pstC x)[q]? := by
  refine ⟨?_, ?_⟩
  · rw [cellsL_get pstF _ A.length q (by simp) hq]; simp
  · rw [cellsL_get pstF _ (A.length + 1) q (by simp) hq, List.getElem_append_right (by omega)]; simp

/-- Two neighbours exchanged. -/
def swapW (W : World) (g : Nat) (j : Nat) (y x : Pst) : World :=
  (((((((((((((((W.setCell ⟨g, (j + 1) * 8, none⟩ (.int .i64 y.num)).setCell ⟨g, (j + 1) * 8 + 1, none⟩ (.int .i64 y.day)).setCell ⟨g, (j + 1) * 8 + 2, none⟩ (.int .i64 y.ent)).setCell ⟨g, (j + 1) * 8 + 3, none⟩ (.int .i64 y.deb)).setCell ⟨g, (j + 1) * 8 + 4, none⟩ (.int .i64 y.crd)).setCell ⟨g, (j + 1) * 8 + 5, none⟩ (.int .i64 y.amt)).setCell ⟨g, (j + 1) * 8 + 6, none⟩ (.int .i64 y.par)).setCell ⟨g, (j + 1) * 8 + 7, none⟩ (.int .i64 y.ref)).setCell ⟨g, j * 8, none⟩ (.int .i64 x.num)).setCell ⟨g, j * 8 + 1, none⟩ (.int .i64 x.day)).setCell ⟨g, j * 8 + 2, none⟩ (.int .i64 x.ent)).setCell ⟨g, j * 8 + 3, none⟩ (.int .i64 x.deb)).setCell ⟨g, j * 8 + 4, none⟩ (.int .i64 x.crd)).setCell ⟨g, j * 8 + 5, none⟩ (.int .i64 x.amt)).setCell ⟨g, j * 8 + 6, none⟩ (.int .i64 x.par)).setCell ⟨g, j * 8 + 7, none⟩ (.int .i64 x.ref)
theorem swap_sets (A R : List Pst) (y x : Pst) (j : Nat) (hj : j = A.length) :
    (((((((((((((((((cellsL pstC (A ++ y :: x :: R)).set ((j + 1) * 8) (.int .i64 y.num)).set ((j + 1) * 8 + 1) (.int .i64 y.day)).set ((j + 1) * 8 + 2) (.int .i64 y.ent)).set ((j + 1) * 8 + 3) (.int .i64 y.deb)).set ((j + 1) * 8 + 4) (.int .i64 y.crd)).set ((j + 1) * 8 + 5) (.int .i64 y.amt)).set ((j + 1) * 8 + 6) (.int .i64 y.par)).set ((j + 1) * 8 + 7) (.int .i64 y.ref)).set (j * 8) (.int .i64 x.num)).set (j * 8 + 1) (.int .i64 x.day)).set (j * 8 + 2) (.int .i64 x.ent)).set (j * 8 + 3) (.int .i64 x.deb)).set (j * 8 + 4) (.int .i64 x.crd)).set (j * 8 + 5) (.int .i64 x.amt)).set (j * 8 + 6) (.int .i64 x.par)).set (j * 8 + 7) (.int .i64 x.ref)) = cellsL pstC (A ++ x :: y :: R) := by
  have hp : j * 8 = (cellsL pstC A).length := by rw [cellsL_len pstF, hj]
  rw [cellsL_app, cellsL_app, show (j + 1) * 8 = j * 8 + 8 by omega]
  have h0 : ∀ L : List Value, ∀ u, (cellsL pstC A ++ L).set (j * 8) u = cellsL pstC A ++ L.set 0 u := fun L u => set_in _ L (j * 8) 0 hp u
  rw [set_in _ _ _ 8 hp, show j * 8 + 8 + 1 = j * 8 + 9 by omega, set_in _ _ _ 9 hp, show j * 8 + 8 + 2 = j * 8 + 10 by omega, set_in _ _ _ 10 hp, show j * 8 + 8 + 3 = j * 8 + 11 by omega, set_in _ _ _ 11 hp, show j * 8 + 8 + 4 = j * 8 + 12 by omega, set_in _ _ _ 12 hp, show j * 8 + 8 + 5 = j * 8 + 13 by omega, set_in _ _ _ 13 hp, show j * 8 + 8 + 6 = j * 8 + 14 by omega, set_in _ _ _ 14 hp, show j * 8 + 8 + 7 = j * 8 + 15 by omega, set_in _ _ _ 15 hp, h0, set_in _ _ _ 1 hp, set_in _ _ _ 2 hp, set_in _ _ _ 3 hp, set_in _ _ _ 4 hp, set_in _ _ _ 5 hp, set_in _ _ _ 6 hp, set_in _ _ _ 7 hp]
  rfl
theorem swap_owns {W : World} {base g n cap j : Nat} {e : TypeId} {A R : List Pst} {y x : Pst} (hj : j = A.length) (h : W.ownsRow base e 8 (.slice (some ⟨g, 0, none⟩) n cap) n (cellsL pstC (A ++ y :: x :: R))) :
    (swapW W g j y x).ownsRow base e 8 (.slice (some ⟨g, 0, none⟩) n cap) n (cellsL pstC (A ++ x :: y :: R)) := by
  have h1 := ((((((((((((((((h.stored ((j + 1) * 8) (.int .i64 y.num)).1.stored ((j + 1) * 8 + 1) (.int .i64 y.day)).1.stored ((j + 1) * 8 + 2) (.int .i64 y.ent)).1.stored ((j + 1) * 8 + 3) (.int .i64 y.deb)).1.stored ((j + 1) * 8 + 4) (.int .i64 y.crd)).1.stored ((j + 1) * 8 + 5) (.int .i64 y.amt)).1.stored ((j + 1) * 8 + 6) (.int .i64 y.par)).1.stored ((j + 1) * 8 + 7) (.int .i64 y.ref)).1.stored (j * 8) (.int .i64 x.num)).1.stored (j * 8 + 1) (.int .i64 x.day)).1.stored (j * 8 + 2) (.int .i64 x.ent)).1.stored (j * 8 + 3) (.int .i64 x.deb)).1.stored (j * 8 + 4) (.int .i64 x.crd)).1.stored (j * 8 + 5) (.int .i64 x.amt)).1.stored (j * 8 + 6) (.int .i64 x.par)).1.stored (j * 8 + 7) (.int .i64 x.ref)).1
  rw [swap_sets A R y x j hj] at h1
  exact h1
theorem own_stores {P : Program} {W : World} {base g n cap size : Nat} {e : TypeId} {xs : List Value} (h : W.ownsRow base e size (.slice (some ⟨g, 0, none⟩) n cap) n xs) (o : Nat) (vs : List Value) (hs : o + vs.length ≤ n * size) (h1 : ∀ v ∈ vs, v.oneCell' = true) :
    Sem.run P (storeCells ⟨g, o, none⟩ vs 0) W = .ok () (W.setCells g o vs) :=
  run_storeCells_cells g o vs 0 W (fun j hj => by
    have hl := h.1
    show (W.cell? ⟨g, o + j, none⟩).isSome = true
    rw [h.cellAt (o + j) (by omega), List.getElem?_eq_getElem (by omega)]; rfl) (fun j hj => h.frozenAt _) h1
theorem setCells_owns {base g n cap size : Nat} {e : TypeId} : ∀ (vs : List Value) (W : World) (o : Nat) (xs : List Value), W.ownsRow base e size (.slice (some ⟨g, 0, none⟩) n cap) n xs → ∃ ys, (W.setCells g o vs).ownsRow base e size (.slice (some ⟨g, 0, none⟩) n cap) n ys
  | [], W, o, xs, h => ⟨xs, h⟩
  | v :: vs, W, o, xs, h => setCells_owns vs (W.setCell ⟨g, o, none⟩ v) (o + 1) _ (h.stored o v).1
theorem own_at {W : World} {base g n cap size : Nat} {e : TypeId} {xs : List Value} (h : W.ownsRow base e size (.slice (some ⟨g, 0, none⟩) n cap) n xs) (o : Nat) (ho : o < n * size) : ∃ u, W.cell? ⟨g, o, none⟩ = some u ∧ W.frozen? ⟨g, o, none⟩ = false := by
  have hl := h.1
  exact ⟨xs[o]'(by omega), by rw [h.cellAt o ho, List.getElem?_eq_getElem (by omega)], h.frozenAt o⟩
theorem swap_below {base : Nat} {w W : World} {g : Nat} (j : Nat) (y x : Pst) (hb : base ≤ g) (h : Below base w W) : Below base w (swapW W g j y x) := by
  unfold swapW
  exact (((((((((((((((h.setCell hb _).setCell hb _).setCell hb _).setCell hb _).setCell hb _).setCell hb _).setCell hb _).setCell hb _).setCell hb _).setCell hb _).setCell hb _).setCell hb _).setCell hb _).setCell hb _).setCell hb _).setCell hb _

end Go.Proofs.Ytoccnindkimjdaa

/- slices.insertionSortCmpFunc on a row of postings. -/
set_option linter.unusedSimpArgs false
set_option linter.unusedVariables false
namespace Go.Proofs.Ytoccnindkimjdaa
open Go.RowKit Go.Lib Go.Proofs


/-- What a sort hands back: the row holds the same postings, in order. -/
def SrpPost (l : List Pst) (v : Value) (base : Nat) (w : World) (e : Ending) (w' : World) : Prop :=
  e = .returned (.tuple #[]) ∧ ∃ l' : List Pst, l'.Perm l ∧ l'.Pairwise pstLe ∧ w'.ownsRow base 55 8 v l.length (cellsL pstC l') ∧ Below base w w'

set_option maxHeartbeats 8000000 in
theorem insPst_any (l : List Pst) (hlen : l.length ≤ 1000) (v : Value) (base : Nat) (w : World) (hown : w.ownsRow base 55 8 v l.length (cellsL pstC l)) (hbase : base ≤ w.heap.size) :
    Calls Try.prog 83 #[v, .int .i64 0, .int .i64 l.length, .func (.func 59) #[] #[]] w (SrpPost l v base w) := by
  have eg := enters_of Try.func59 (by kernel_rfl) rfl
  obtain ⟨n, hn⟩ : ∃ n, n = l.length := ⟨_, rfl⟩
  have HN := Lib.hid hn
  have HBASE := Lib.hid hbase
  unfold SrpPost
  rw [← hn] at hown hlen ⊢
  by_cases hz : n = 0
  · subst hz
    have hl0 : l = [] := List.length_eq_zero_iff.1 hn.symm
    have HL0 := Lib.hid hl0
    have HO := Lib.hid hown
    clear hn hl0 hown hbase
    go_enter Try.func83, Try.ntmps83
    go_wp2
    go_loop [8] (fun i => i = .int .i64 1) (fun _ => 0)
    case atStart => rfl
    case round =>
      subst hrel
      go_wp2
      go_end0
      exact ⟨rfl, [], by rw [HL0.out], List.Pairwise.nil, by have := HO.out; rw [HL0.out] at this; exact this, Below.refl _ _⟩
  · obtain ⟨g, cap, rfl, hg, hcap⟩ := owns_shape hown (by omega)
    have HG := Lib.hid hg
    have HO := Lib.hid hown
    have HCM := Lib.hid rsbookedC_any
    have mixed : Try.prog.follows Departure.mixedOrders = true := by kernel_rfl
    have hn1 : 1 ≤ n := by omega
    have hn64 : (n : Int) ≤ 1000 := by omega
    clear hn hown hbase hg hz
    go_enter Try.func83, Try.ntmps83
    go_wp2
    go_loopw [8] (fun iv wr => ∃ (i : Nat) (P C : List Pst), iv = .int .i64 (i : Int) ∧ 1 ≤ i ∧ i ≤ n ∧ Hid (P.length = i) ∧ Hid ((P ++ C).Perm l) ∧ Hid (P.Pairwise pstLe) ∧ Hid (wr.ownsRow base 55 8 (.slice (some ⟨g, 0, none⟩) n cap) n (cellsL pstC (P ++ C))) ∧ Hid (Below base w wr)) (fun iv _ => n - (RowKit.intOf iv).toNat)
    case atStart =>
      refine ⟨1, l.take 1, l.drop 1, rfl, by omega, hn1, Lib.hid ?_, Lib.hid (by rw [List.take_append_drop]), Lib.hid ?_, Lib.hid (by rw [List.take_append_drop]; exact HO.out), Lib.hid (Below.refl _ _)⟩
      · have := HN.out; simp; omega
      · match l with
        | [] => exact List.Pairwise.nil
        | [a] => exact List.pairwise_singleton _ _
        | a :: b :: r => exact List.pairwise_singleton _ _
    case round =>
      clear HO
      obtain ⟨i, P, C, rfl, hi1, hin, HP, HPE, HSO, HO, HB⟩ := hrel
      by_cases hlt : i < n
      · obtain ⟨x, C', rfl⟩ : ∃ x C', C = x :: C' := by
          match C with
          | [] => have := HPE.out.length_eq; have := HP.out; have := HN.out; simp at *; omega
          | x :: C' => exact ⟨x, C', rfl⟩
        have hii : (i : Int) < (n : Int) := by omega
        have hi0 : (0 : Int) ≤ (i : Int) := by omega
        go_wp2
        go_loopw [9] (fun jv wx => ∃ (j : Nat) (A B : List Pst), jv = .int .i64 (j : Int) ∧ j ≤ i ∧ Hid (A.length = j) ∧ Hid (A.length + B.length = i) ∧ Hid ((A ++ B).Pairwise pstLe) ∧ Hid (∀ b ∈ B, pstLe x b) ∧ Hid ((A ++ x :: (B ++ C')).Perm l) ∧ Hid (wx.ownsRow base 55 8 (.slice (some ⟨g, 0, none⟩) n cap) n (cellsL pstC (A ++ x :: (B ++ C')))) ∧ Hid (Below base w wx)) (fun jv _ => (RowKit.intOf jv).toNat)
        case atStart => exact ⟨i, P, [], rfl, Nat.le_refl _, HP, Lib.hid (by simp [HP.out]), Lib.hid (by simpa using HSO.out), Lib.hid (by simp), Lib.hid (by simpa using HPE.out), Lib.hid (by simpa using HO.out), HB⟩
        case round =>
          clear HP HPE HSO HO HB
          obtain ⟨j, A, B, rfl, hji, HA, HAB, HSO, HXB, HPE, HO, HB⟩ := hrel
          by_cases hj : j = 0
          · subst hj
            have hA0 : A = [] := List.length_eq_zero_iff.1 HA.out
            subst hA0
            go_wp2_with fail
            go_big_region_o
            all_goals go_wp2
            go_roundw
            case rel => exact ⟨i + 1, x :: B, C', by first | rfl | go_num, by omega, by omega, Lib.hid (by have := HAB.out; simp at *; omega), Lib.hid (by simpa using HPE.out), Lib.hid (by have := HSO.out; simp at this; exact List.pairwise_cons.2 ⟨HXB.out, this⟩), Lib.hid (by have h := ownsRow_below HO.out ((Below.refl _ _).drew); simpa using h), Lib.hid HB.out.drew⟩
            case measure => simp [RowKit.intOf]; omega
          · obtain ⟨A', y, rfl⟩ : ∃ A' y, A = A' ++ [y] := by
              rcases List.eq_nil_or_concat A with h | ⟨A', y, h⟩
              · exact absurd HA.out (by rw [h]; simp; omega)
              · exact ⟨A', y, by rw [h, List.concat_eq_append]⟩
            obtain ⟨jp, hjp⟩ : ∃ jp, jp = A'.length := ⟨_, rfl⟩
            have HJP := Lib.hid hjp
            obtain rfl : j = jp + 1 := by have := HA.out; simp at this; omega
            have hls : (A' ++ [y]) ++ x :: (B ++ C') = A' ++ y :: x :: (B ++ C') := by simp
            rw [hls] at HO HPE
            have hjn : jp + 1 < n := by omega
            have hmc := fun q hq => mid_cells A' (B ++ C') y x q hq
            rw [← hjp] at hmc
            have hcl := fun q (hq : q < 8) => (HO.out.cellAt (jp * 8 + q) (by omega)).trans (hmc q hq).1
            have hch := fun q (hq : q < 8) => (HO.out.cellAt ((jp + 1) * 8 + q) (by omega)).trans (hmc q hq).2
            have hcmp := HCM.out x y
            have hle1 : pstCmp x y < 0 → pstLe x y := pstLe_lt
            have hle2 : ¬ pstCmp x y < 0 → pstLe y x := pstLe_of
            have HSW := Lib.hid (fun (W : World) (h : W.ownsRow base 55 8 (.slice (some ⟨g, 0, none⟩) n cap) n (cellsL pstC (A' ++ y :: x :: (B ++ C')))) => swap_owns hjp h)
            have HSB := Lib.hid (fun (W : World) (h : Below base w W) => swap_below (g := g) jp y x HG.out h)
            obtain ⟨cq, hcq⟩ : ∃ cq, cq = pstCmp x y := ⟨_, rfl⟩
            rw [← hcq] at hle1 hle2 hcmp
            have hle : Hid ((cq < 0 → pstLe x y) ∧ (¬ cq < 0 → pstLe y x)) := Lib.hid ⟨hle1, hle2⟩
            clear hle1 hle2 hcq hmc hls hjp
            obtain ⟨X, hX⟩ : ∃ X, X = x := ⟨_, rfl⟩
            obtain ⟨Y, hY⟩ : ∃ Y, Y = y := ⟨_, rfl⟩
            rw [← hX, ← hY] at hle
            have HX := Lib.hid hX
            have HY := Lib.hid hY
            clear hX hY
            have HCMP := Lib.hid hcmp
            have c0 := hcl 0 (by omega)
            have c1 := hcl 1 (by omega)
            have c2 := hcl 2 (by omega)
            have c3 := hcl 3 (by omega)
            have c4 := hcl 4 (by omega)
            have c5 := hcl 5 (by omega)
            have c6 := hcl 6 (by omega)
            have c7 := hcl 7 (by omega)
            have d0 := hch 0 (by omega)
            have d1 := hch 1 (by omega)
            have d2 := hch 2 (by omega)
            have d3 := hch 3 (by omega)
            have d4 := hch 4 (by omega)
            have d5 := hch 5 (by omega)
            have d6 := hch 6 (by omega)
            have d7 := hch 7 (by omega)
            have HOS : Hid (∀ W, Below wr.heap.size wr W → W.ownsRow base 55 8 (.slice (some ⟨g, 0, none⟩) n cap) n (cellsL pstC (A' ++ y :: x :: (B ++ C')))) := Lib.hid fun W hW => ownsRow_below HO.out hW
            have HBW : Hid (∀ W, Below wr.heap.size wr W → Below base w W) := Lib.hid fun W hW => HB.out.trans (hW.mono (Nat.le_trans HBASE.out HB.out.size))
            simp only [pstC, List.getElem?_cons_zero, List.getElem?_cons_succ, Nat.add_zero] at c0 c1 c2 c3 c4 c5 c6 c7 d0 d1 d2 d3 d4 d5 d6 d7 HCMP
            clear hcl hch hcmp HO HB
            obtain ⟨x0, x1, x2, x3, x4, x5, x6, x7⟩ := x
            obtain ⟨y0, y1, y2, y3, y4, y5, y6, y7⟩ := y
            simp only at c0 c1 c2 c3 c4 c5 c6 c7 d0 d1 d2 d3 d4 d5 d6 d7 HCMP
            have hcs : wr.cell? ⟨g, jp * 8, none⟩ = some (.int .i64 y0) ∧ wr.cell? ⟨g, jp * 8 + 1, none⟩ = some (.int .i64 y1) ∧ wr.cell? ⟨g, jp * 8 + 2, none⟩ = some (.int .i64 y2) ∧ wr.cell? ⟨g, jp * 8 + 3, none⟩ = some (.int .i64 y3) ∧ wr.cell? ⟨g, jp * 8 + 4, none⟩ = some (.int .i64 y4) ∧ wr.cell? ⟨g, jp * 8 + 5, none⟩ = some (.int .i64 y5) ∧ wr.cell? ⟨g, jp * 8 + 6, none⟩ = some (.int .i64 y6) ∧ wr.cell? ⟨g, jp * 8 + 7, none⟩ = some (.int .i64 y7) ∧ wr.cell? ⟨g, (jp + 1) * 8, none⟩ = some (.int .i64 x0) ∧ wr.cell? ⟨g, (jp + 1) * 8 + 1, none⟩ = some (.int .i64 x1) ∧ wr.cell? ⟨g, (jp + 1) * 8 + 2, none⟩ = some (.int .i64 x2) ∧ wr.cell? ⟨g, (jp + 1) * 8 + 3, none⟩ = some (.int .i64 x3) ∧ wr.cell? ⟨g, (jp + 1) * 8 + 4, none⟩ = some (.int .i64 x4) ∧ wr.cell? ⟨g, (jp + 1) * 8 + 5, none⟩ = some (.int .i64 x5) ∧ wr.cell? ⟨g, (jp + 1) * 8 + 6, none⟩ = some (.int .i64 x6) ∧ wr.cell? ⟨g, (jp + 1) * 8 + 7, none⟩ = some (.int .i64 x7) := ⟨c0, c1, c2, c3, c4, c5, c6, c7, d0, d1, d2, d3, d4, d5, d6, d7⟩
            have hwp : IntKind.i64.wrap (jp : Int) = (jp : Int) := by rw [IntKind.wrap_i64]; omega
            have jz : (jp : Int) + 1 < (n : Int) := by omega
            have jz1 : (jp : Int) < (n : Int) := by omega
            have p0 : (0 : Int) ≤ (jp : Int) + 1 := by omega
            have p1 : (0 : Int) < (jp : Int) + 1 := by omega
            have e0 : ((jp : Int) + 1).toNat = jp + 1 := by omega
            clear c0 c1 c2 c3 c4 c5 c6 c7 d0 d1 d2 d3 d4 d5 d6 d7
            have HCO : Hid (∀ W, Below wr.heap.size wr W → W.cell? ⟨g, jp * 8, none⟩ = some (.int .i64 y0) ∧ W.cell? ⟨g, jp * 8 + 1, none⟩ = some (.int .i64 y1) ∧ W.cell? ⟨g, jp * 8 + 2, none⟩ = some (.int .i64 y2) ∧ W.cell? ⟨g, jp * 8 + 3, none⟩ = some (.int .i64 y3) ∧ W.cell? ⟨g, jp * 8 + 4, none⟩ = some (.int .i64 y4) ∧ W.cell? ⟨g, jp * 8 + 5, none⟩ = some (.int .i64 y5) ∧ W.cell? ⟨g, jp * 8 + 6, none⟩ = some (.int .i64 y6) ∧ W.cell? ⟨g, jp * 8 + 7, none⟩ = some (.int .i64 y7) ∧ W.cell? ⟨g, (jp + 1) * 8, none⟩ = some (.int .i64 x0) ∧ W.cell? ⟨g, (jp + 1) * 8 + 1, none⟩ = some (.int .i64 x1) ∧ W.cell? ⟨g, (jp + 1) * 8 + 2, none⟩ = some (.int .i64 x2) ∧ W.cell? ⟨g, (jp + 1) * 8 + 3, none⟩ = some (.int .i64 x3) ∧ W.cell? ⟨g, (jp + 1) * 8 + 4, none⟩ = some (.int .i64 x4) ∧ W.cell? ⟨g, (jp + 1) * 8 + 5, none⟩ = some (.int .i64 x5) ∧ W.cell? ⟨g, (jp + 1) * 8 + 6, none⟩ = some (.int .i64 x6) ∧ W.cell? ⟨g, (jp + 1) * 8 + 7, none⟩ = some (.int .i64 x7)) := Lib.hid fun W hW => by
              have hlt : g < wr.heap.size := by
                rcases Nat.lt_or_ge g wr.heap.size with h | h
                · exact h
                · have := hcs.1; simp [World.cell?, Array.getElem?_eq_none h] at this
              obtain ⟨q0, q1, q2, q3, q4, q5, q6, q7, q8, q9, q10, q11, q12, q13, q14, q15⟩ := hcs
              exact ⟨(hW.cell (p := ⟨g, _, none⟩) hlt).trans q0, (hW.cell (p := ⟨g, _, none⟩) hlt).trans q1, (hW.cell (p := ⟨g, _, none⟩) hlt).trans q2, (hW.cell (p := ⟨g, _, none⟩) hlt).trans q3, (hW.cell (p := ⟨g, _, none⟩) hlt).trans q4, (hW.cell (p := ⟨g, _, none⟩) hlt).trans q5, (hW.cell (p := ⟨g, _, none⟩) hlt).trans q6, (hW.cell (p := ⟨g, _, none⟩) hlt).trans q7, (hW.cell (p := ⟨g, _, none⟩) hlt).trans q8, (hW.cell (p := ⟨g, _, none⟩) hlt).trans q9, (hW.cell (p := ⟨g, _, none⟩) hlt).trans q10, (hW.cell (p := ⟨g, _, none⟩) hlt).trans q11, (hW.cell (p := ⟨g, _, none⟩) hlt).trans q12, (hW.cell (p := ⟨g, _, none⟩) hlt).trans q13, (hW.cell (p := ⟨g, _, none⟩) hlt).trans q14, (hW.cell (p := ⟨g, _, none⟩) hlt).trans q15⟩
            go_upto_region 4 with fail
            go_region_held3 (fun W => W.cell? ⟨g, jp * 8, none⟩ = some (.int .i64 y0) ∧ W.cell? ⟨g, jp * 8 + 1, none⟩ = some (.int .i64 y1) ∧ W.cell? ⟨g, jp * 8 + 2, none⟩ = some (.int .i64 y2) ∧ W.cell? ⟨g, jp * 8 + 3, none⟩ = some (.int .i64 y3) ∧ W.cell? ⟨g, jp * 8 + 4, none⟩ = some (.int .i64 y4) ∧ W.cell? ⟨g, jp * 8 + 5, none⟩ = some (.int .i64 y5) ∧ W.cell? ⟨g, jp * 8 + 6, none⟩ = some (.int .i64 y6) ∧ W.cell? ⟨g, jp * 8 + 7, none⟩ = some (.int .i64 y7) ∧ W.cell? ⟨g, (jp + 1) * 8, none⟩ = some (.int .i64 x0) ∧ W.cell? ⟨g, (jp + 1) * 8 + 1, none⟩ = some (.int .i64 x1) ∧ W.cell? ⟨g, (jp + 1) * 8 + 2, none⟩ = some (.int .i64 x2) ∧ W.cell? ⟨g, (jp + 1) * 8 + 3, none⟩ = some (.int .i64 x3) ∧ W.cell? ⟨g, (jp + 1) * 8 + 4, none⟩ = some (.int .i64 x4) ∧ W.cell? ⟨g, (jp + 1) * 8 + 5, none⟩ = some (.int .i64 x5) ∧ W.cell? ⟨g, (jp + 1) * 8 + 6, none⟩ = some (.int .i64 x6) ∧ W.cell? ⟨g, (jp + 1) * 8 + 7, none⟩ = some (.int .i64 x7)) (first | exact hcs | exact HCO.out _ HJ.out) (first | (go_at_call 59; with_reducible refine Calls.mono (HCMP.out _) ?_; rintro e wz7 ⟨rfl, b7⟩; (have HJ : Hid (Below wr.heap.size wr wz7) := Lib.hid (by first | exact b7 | exact Below.trans ((Below.refl _ _).drew) (b7.mono (Nat.le_refl _)))); clear b7))
            rename_i hheld
            clear hcs HCMP hheld
            by_cases hlv : cq < 0
            · have hxy := hle.out.1 (by omega)
              obtain ⟨q0, q1, q2, q3, q4, q5, q6, q7, q8, q9, q10, q11, q12, q13, q14, q15⟩ := HCO.out _ HJ.out
              have hod := HOS.out _ HJ.out
              have hfz := fun q => (HOS.out _ HJ.out).frozenAt q
              have z0 := hfz (jp * 8)
              have z1 := hfz (jp * 8 + 1)
              have z2 := hfz (jp * 8 + 2)
              have z3 := hfz (jp * 8 + 3)
              have z4 := hfz (jp * 8 + 4)
              have z5 := hfz (jp * 8 + 5)
              have z6 := hfz (jp * 8 + 6)
              have z7 := hfz (jp * 8 + 7)
              have z8 := hfz ((jp + 1) * 8)
              have z9 := hfz ((jp + 1) * 8 + 1)
              have z10 := hfz ((jp + 1) * 8 + 2)
              have z11 := hfz ((jp + 1) * 8 + 3)
              have z12 := hfz ((jp + 1) * 8 + 4)
              have z13 := hfz ((jp + 1) * 8 + 5)
              have z14 := hfz ((jp + 1) * 8 + 6)
              have z15 := hfz ((jp + 1) * 8 + 7)
              have nq0 : ¬ jp * 8 = (jp + 1) * 8 := by omega
              have nq1 : ¬ (jp + 1) * 8 = jp * 8 := by omega
              have nq2 : ¬ jp * 8 = (jp + 1) * 8 + 1 := by omega
              have nq3 : ¬ (jp + 1) * 8 + 1 = jp * 8 := by omega
              have nq4 : ¬ jp * 8 + 1 = (jp + 1) * 8 := by omega
              have nq5 : ¬ (jp + 1) * 8 = jp * 8 + 1 := by omega
              have nq6 : ¬ jp * 8 = (jp + 1) * 8 + 2 := by omega
              have nq7 : ¬ (jp + 1) * 8 + 2 = jp * 8 := by omega
              have nq8 : ¬ jp * 8 + 2 = (jp + 1) * 8 := by omega
              have nq9 : ¬ (jp + 1) * 8 = jp * 8 + 2 := by omega
              have nq10 : ¬ jp * 8 = (jp + 1) * 8 + 3 := by omega
              have nq11 : ¬ (jp + 1) * 8 + 3 = jp * 8 := by omega
              have nq12 : ¬ jp * 8 + 3 = (jp + 1) * 8 := by omega
              have nq13 : ¬ (jp + 1) * 8 = jp * 8 + 3 := by omega
              have nq14 : ¬ jp * 8 = (jp + 1) * 8 + 4 := by omega
              have nq15 : ¬ (jp + 1) * 8 + 4 = jp * 8 := by omega
              have nq16 : ¬ jp * 8 + 4 = (jp + 1) * 8 := by omega
              have nq17 : ¬ (jp + 1) * 8 = jp * 8 + 4 := by omega
              have nq18 : ¬ jp * 8 = (jp + 1) * 8 + 5 := by omega
              have nq19 : ¬ (jp + 1) * 8 + 5 = jp * 8 := by omega
              have nq20 : ¬ jp * 8 + 5 = (jp + 1) * 8 := by omega
              have nq21 : ¬ (jp + 1) * 8 = jp * 8 + 5 := by omega
              have nq22 : ¬ jp * 8 = (jp + 1) * 8 + 6 := by omega
              have nq23 : ¬ (jp + 1) * 8 + 6 = jp * 8 := by omega
              have nq24 : ¬ jp * 8 + 6 = (jp + 1) * 8 := by omega
              have nq25 : ¬ (jp + 1) * 8 = jp * 8 + 6 := by omega
              have nq26 : ¬ jp * 8 = (jp + 1) * 8 + 7 := by omega
              have nq27 : ¬ (jp + 1) * 8 + 7 = jp * 8 := by omega
              have nq28 : ¬ jp * 8 + 7 = (jp + 1) * 8 := by omega
              have nq29 : ¬ (jp + 1) * 8 = jp * 8 + 7 := by omega
              have HSW2 := Lib.hid (ownsRow_below (HSW.out _ hod) ((Below.refl _ _).drew))
              have HSB2 := Lib.hid ((HSB.out _ (HBW.out _ HJ.out)).drew)
              have HXY := Lib.hid hxy
              unfold swapW at HSW2 HSB2
              simp only at HSW2 HSB2
              clear hfz hod hxy HSW HSB HBW HOS HCO HCM
              go_wp2_with fail
              go_big_region_o
              all_goals go_wp2
              go_roundw
              case rel => exact ⟨jp, A', ⟨y0, y1, y2, y3, y4, y5, y6, y7⟩ :: B, by first | rfl | go_num, by omega, Lib.hid HJP.out.symm, Lib.hid (by have := HAB.out; rw [List.length_append] at this; simp at *; omega), Lib.hid (by simpa using HSO.out), Lib.hid (fun b hb => by
                rcases List.mem_cons.1 hb with rfl | hb
                · have := HXY.out; rw [HX.out, HY.out] at this; exact this
                · exact HXB.out b hb), Lib.hid (by
                  refine List.Perm.trans ?_ HPE.out
                  exact List.Perm.append_left A' (List.Perm.swap _ _ _)), HSW2, HSB2⟩
              case measure => simp [RowKit.intOf]
            · have hyx := Lib.hid (hle.out.2 (by omega))
              have HOX := Lib.hid (HOS.out _ HJ.out)
              have HBX := Lib.hid (HBW.out _ HJ.out)
              clear HSW HSB HBW HOS HCO
              go_wp2
              go_roundw
              case rel => exact ⟨i + 1, (A' ++ [⟨y0, y1, y2, y3, y4, y5, y6, y7⟩]) ++ ⟨x0, x1, x2, x3, x4, x5, x6, x7⟩ :: B, C', by first | rfl | go_num, by omega, by omega, Lib.hid (by have := HAB.out; rw [List.length_append, List.length_cons]; omega), Lib.hid (by simpa using HPE.out), Lib.hid (sorted_ins HSO.out HXB.out (last_le HSO.out (by have := hyx.out; rw [HX.out, HY.out] at this; exact this))), Lib.hid (by simpa using HOX.out), HBX⟩
              case measure => simp [RowKit.intOf]; omega
      · obtain rfl : i = n := by omega
        have hC : C = [] := by
          have h1 := HPE.out.length_eq
          have h2 := HP.out
          have h3 := HN.out
          rw [List.length_append] at h1
          exact List.length_eq_zero_iff.1 (by omega)
        subst hC
        go_wp2
        go_end0
        exact ⟨rfl, P, by simpa using HPE.out, HSO.out, by simpa using HO.out, HB.out⟩

end Go.Proofs.Ytoccnindkimjdaa

/- SortStableFunc on a row of fewer than 20 postings. -/
set_option linter.unusedSimpArgs false
set_option linter.unusedVariables false
namespace Go.Proofs.Ytoccnindkimjdaa
open Go.RowKit Go.Lib Go.Proofs


set_option maxHeartbeats 4000000 in
theorem stablePst_any (l : List Pst) (hlen : l.length < 20) (v : Value) (base : Nat) (w : World) (hown : w.ownsRow base 55 8 v l.length (cellsL pstC l)) (hbase : base ≤ w.heap.size) :
    Calls Try.prog 78 #[v, .int .i64 l.length, .func (.func 59) #[] #[]] w (SrpPost l v base w) := by
  have HI := Lib.hid (insPst_any l (by omega) v base w hown hbase)
  obtain ⟨ao, cap, rfl, _⟩ := owns_gen hown
  unfold SrpPost at *
  obtain ⟨n, hn⟩ : ∃ n, n = l.length := ⟨_, rfl⟩
  rw [← hn] at hlen HI ⊢
  have h20 : (n : Int) < 20 := by omega
  clear hn hown hbase
  go_enter Try.func78, Try.ntmps78
  go_wp2
  go_loopw [7, 8] (fun av bv wr => av = .int .i64 0 ∧ bv = .int .i64 20 ∧ wr = w) (fun _ _ _ => 0)
  case atStart => exact ⟨rfl, rfl, rfl⟩
  case round =>
    obtain ⟨rfl, rfl, rfl⟩ := hrel
    go_wp2_with fail
    with_reducible refine Calls.mono (HI.out) ?_
    rintro e w1 ⟨rfl, l', h1, h2, h3, h4⟩
    have H1 := Lib.hid h1
    have H2 := Lib.hid h2
    have H3 := Lib.hid h3
    have H4 := Lib.hid h4
    clear h1 h2 h3 h4 HI
    go_wp2
    go_loopw [6] (fun sv wx => sv = .int .i64 20 ∧ wx = w1) (fun _ _ => 0)
    case atStart => exact ⟨rfl, rfl⟩
    case round =>
      obtain ⟨rfl, rfl⟩ := hrel
      go_wp2
      go_end0
      exact ⟨rfl, l', H1.out, H2.out, H3.out, H4.out⟩

set_option maxHeartbeats 4000000 in
theorem SortPst_any (l : List Pst) (hlen : l.length < 20) (v : Value) (base : Nat) (w : World) (hown : w.ownsRow base 55 8 v l.length (cellsL pstC l)) (hbase : base ≤ w.heap.size) :
    Calls Try.prog 58 #[v, .func (.func 59) #[] #[]] w (SrpPost l v base w) := by
  have HI := Lib.hid (stablePst_any l hlen v base w hown hbase)
  obtain ⟨ao, cap, rfl, _⟩ := owns_gen hown
  unfold SrpPost at *
  clear hown hbase
  go_enter Try.func58, Try.ntmps58
  go_wp2_with fail
  with_reducible refine Calls.mono (HI.out) ?_
  rintro e w1 ⟨rfl, l', h1, h2, h3, h4⟩
  go_wp2
  go_end0
  exact ⟨rfl, l', h1, h2, h3, h4⟩

end Go.Proofs.Ytoccnindkimjdaa

/- The package's booked: the postings of a correction by their day, with numbers of their own. -/
set_option linter.unusedSimpArgs false
set_option linter.unusedVariables false
namespace Go.Proofs.Ytoccnindkimjdaa
open Go.RowKit Go.Lib Go.Proofs

theorem renumG_snoc (x : Pst) : ∀ (n : Nat) (l : List Pst), renumG n (l ++ [x]) = renumG n l ++ [⟨((n + l.length : Nat) : Int) + 1, x.day, x.ent, x.deb, x.crd, x.amt, x.par, x.ref⟩]
  | n, [] => by simp [renumG]
  | n, p :: l => by
    simp only [List.cons_append, renumG, renumG_snoc x (n + 1) l, List.length_cons]
    rw [show n + 1 + l.length = n + (l.length + 1) by omega]
theorem renumG_len : ∀ (n : Nat) (l : List Pst), (renumG n l).length = l.length
  | _, [] => rfl
  | n, p :: l => by simp [renumG, renumG_len (n + 1) l]
theorem set_num (A R : List Pst) (x : Pst) (j : Nat) (hj : j = A.length) (z : Int) : (cellsL pstC (A ++ x :: R)).set (j * 8) (.int .i64 z) = cellsL pstC (A ++ ⟨z, x.day, x.ent, x.deb, x.crd, x.amt, x.par, x.ref⟩ :: R) := by
  have hp : j * 8 = (cellsL pstC A).length := by rw [cellsL_len pstF, hj]
  rw [cellsL_app, cellsL_app, show j * 8 = j * 8 + 0 by omega, set_in _ _ _ 0 hp]
  rfl
/-- After k rounds: the first k have their numbers. -/
def midR (k : Nat) (l : List Pst) : List Pst := renumG 0 (l.take k) ++ l.drop k
theorem midR_step {l : List Pst} {k : Nat} (h : k < l.length) : midR k l = renumG 0 (l.take k) ++ l[k] :: l.drop (k + 1) ∧ midR (k + 1) l = renumG 0 (l.take k) ++ ⟨(k : Int) + 1, l[k].day, l[k].ent, l[k].deb, l[k].crd, l[k].amt, l[k].par, l[k].ref⟩ :: l.drop (k + 1) := by
  refine ⟨by unfold midR; rw [List.drop_eq_getElem_cons h], ?_⟩
  unfold midR
  rw [List.take_succ_eq_append_getElem h, renumG_snoc, List.append_assoc]
  have hl : (l.take k).length = k := by rw [List.length_take]; omega
  rw [hl, Nat.zero_add]
  rfl

set_option maxRecDepth 100000 in
set_option maxHeartbeats 8000000 in
theorem rsbooked_ok {ps : List Pst} (h1 : 1 ≤ ps.length) (h3 : ps.length < 20) (cy cf : Int) (v : Value) (w : World) (hl : PstsAt w v ps) :
    Calls Try.prog 35 #[.agg #[.int .i64 cy, .int .i64 cf, v]] w fun e w' => ∃ (u : Value) (l' : List Pst), e = .returned (.agg #[u]) ∧ l'.Perm ps ∧ l'.Pairwise pstLe ∧ PstsAt w' u (renumG 0 l') ∧ Below w.heap.size w w' := by
  have HCL := Lib.hid (fun W (hW : Below w.heap.size w W) => clonePst_any pstC pstF ps v W (ListAt.below hl hW) (by omega))
  have HSO := Lib.hid (fun u base W => SortPst_any ps h3 u base W)
  unfold SrpPost at HSO
  obtain ⟨ao, cap, rfl, hcap, -⟩ := hl.shape pstF
  obtain ⟨n, hn⟩ : ∃ n, n = ps.length := ⟨_, rfl⟩
  have HN := Lib.hid hn
  rw [← hn] at HCL hcap HSO h1 h3 ⊢
  obtain ⟨w0, hw0⟩ : ∃ W, W = (w.alloc (.cells #[.int .i64 cy, .int .i64 cf, .slice ao n cap] 49)).alloc (.cells #[.slice none 0 0] 27) := ⟨_, rfl⟩
  obtain ⟨bC, hbC⟩ : ∃ b, b = w.heap.size := ⟨_, rfl⟩
  obtain ⟨bR, hbR⟩ : ∃ b, b = w.heap.size + 1 := ⟨_, rfl⟩
  have HC0 : Hid (w0.heap[bC]? = some (.cells #[.int .i64 cy, .int .i64 cf, .slice ao n cap] 49 (0, 0))) := Lib.hid (by rw [hw0, hbC]; exact alloc1_at w _ _)
  have HR0 : Hid (w0.heap[bR]? = some (.cells #[.slice none 0 0] 27 (0, 0))) := Lib.hid (by rw [hw0, hbR]; exact alloc2_at w _ _)
  have HB0 : Hid (Below w.heap.size w w0) := Lib.hid (by rw [hw0]; exact below2 w _ _)
  have HLL : Hid (w.heap.size ≤ bR ∧ bR < w0.heap.size) := Lib.hid ⟨by omega, obj_lt HR0.out⟩
  have hbx := HC0.out
  have HW0 := Lib.hid hw0
  have HBC := Lib.hid hbC
  have HBR := Lib.hid hbR
  have ub0 := obj_cell hbx 0
  have ub1 := obj_cell hbx 1
  have ub2 := obj_cell hbx 2
  simp at ub0 ub1 ub2
  clear hn hl hw0 hbC hbR hbx
  go_enter Try.func35, Try.ntmps35
  go_upto_region 1 with fail
  rw [← HW0.out, ← HBR.out, ← HBC.out]
  go_wp2_with fail
  refine (HCL.out _ HB0.out).mono ?_
  rintro e w1 ⟨u, rfl, hown, hb1⟩
  have HR1 := Lib.hid (obj_below HR0.out hb1)
  have HB1 := Lib.hid (HB0.out.trans (hb1.mono HB0.out.size))
  have HS1 := Lib.hid (HSO.out u w0.heap.size w1 hown hb1.size)
  clear ub0 ub1 ub2 hb1 hown
  go_wp2_with fail
  refine (HS1.out).mono ?_
  rintro e w2 ⟨rfl, l', hpe, hso, hown, hb2⟩
  obtain ⟨g, cu, rfl, hg, hcu⟩ := owns_shape hown (by omega)
  have hr2 : w2.heap[bR]? = some (.cells #[.slice none 0 0] 27 (0, 0)) := (hb2.block bR HLL.out.2).trans HR1.out
  have HPE := Lib.hid hpe
  have HSR := Lib.hid hso
  have hln : l'.length = n := by rw [hpe.length_eq, HN.out]
  have HLN := Lib.hid hln
  have HB2 : Hid (Below w.heap.size w w2) := Lib.hid (HB1.out.trans (hb2.mono (by have := HB0.out.size; omega)))
  have HO2 : Hid (w2.ownsRow w0.heap.size 55 8 (.slice (some ⟨g, 0, none⟩) n cu) n (cellsL pstC (midR 0 l'))) := Lib.hid (by unfold midR; exact hown)
  have HR2 := Lib.hid hr2
  have HG := Lib.hid hg
  clear hpe hso hown hb2 hr2 hln hg HS1 HSO
  go_wp2
  go_loopw [12] (fun iv wr => ∃ k : Nat, iv = .int .i64 k ∧ k ≤ n ∧ Hid (Below w.heap.size w wr) ∧ Hid (wr.heap[bR]? = some (.cells #[.slice none 0 0] 27 (0, 0))) ∧ Hid (wr.ownsRow w0.heap.size 55 8 (.slice (some ⟨g, 0, none⟩) n cu) n (cellsL pstC (midR k l')))) (fun iv _ => n - (RowKit.intOf iv).toNat)
  case atStart => exact ⟨0, rfl, by omega, HB2, HR2, HO2⟩
  case round =>
    clear HB2 HR2 HO2
    obtain ⟨k, rfl, hkn, HB, HR, HO⟩ := hrel
    by_cases hlt : k < n
    · have hkl : k < l'.length := by rw [HLN.out]; exact hlt
      obtain ⟨m1, m2⟩ := midR_step hkl
      have hk0 : (0 : Int) ≤ (k : Int) := by omega
      have hk1 : (k : Int) < (n : Int) := by omega
      have hwk : IntKind.i64.wrap ((k : Int) + 1) = (k : Int) + 1 := IntWalk.i64_in _ (by omega)
      have hc : ∃ z, wr.cell? ⟨g, k * 8, none⟩ = some z := by
        have hll := HO.out.1
        exact ⟨_, by rw [HO.out.cellAt (k * 8) (by omega), List.getElem?_eq_getElem (by omega)]⟩
      obtain ⟨z, hz⟩ := hc
      have hf := HO.out.frozenAt (k * 8)
      have hgg : wr.grownBy (wr.setCell ⟨g, k * 8, none⟩ (.int .i64 ((k : Int) + 1))) (some g) := setCell_grown _ _
      have HO9 : Hid ((wr.setCell ⟨g, k * 8, none⟩ (.int .i64 ((k : Int) + 1))).ownsRow w0.heap.size 55 8 (.slice (some ⟨g, 0, none⟩) n cu) n (cellsL pstC (midR (k + 1) l'))) := Lib.hid (by
        have h4 := HO.out
        rw [m1] at h4
        have h5 := (h4.stored (k * 8) (.int .i64 ((k : Int) + 1))).1
        rw [set_num _ _ _ k (by rw [renumG_len, List.length_take]; omega)] at h5
        rw [m2]
        exact h5)
      have HR9 : Hid ((wr.setCell ⟨g, k * 8, none⟩ (.int .i64 ((k : Int) + 1))).heap[bR]? = some (.cells #[.slice none 0 0] 27 (0, 0))) := Lib.hid ((hgg.block bR (obj_lt HR.out) (by have h6 := HG.out; have h7 := HLL.out.2; simp; omega)).trans HR.out)
      have HB9 : Hid (Below w.heap.size w (wr.setCell ⟨g, k * 8, none⟩ (.int .i64 ((k : Int) + 1)))) := Lib.hid (HB.out.setCell (by show w.heap.size ≤ g; have h6 := HG.out; have h7 := HB0.out.size; omega) _)
      clear m1 m2 hgg
      go_wp2
      go_roundw
      case rel => exact ⟨k + 1, by first | rfl | go_num, by omega, HB9, HR9, HO9⟩
      case measure => simp [RowKit.intOf]; omega
    · obtain hkk : k = n := by omega
      have hend : midR n l' = renumG 0 l' := by
        unfold midR
        rw [List.take_of_length_le (by rw [HLN.out]; exact Nat.le_refl _), List.drop_eq_nil_of_le (by rw [HLN.out]; exact Nat.le_refl _), List.append_nil]
      rw [hkk, hend] at HO
      have hr := HR.out
      have r0 := obj_cell hr 0
      simp at r0
      have fr0 := obj_free hr 0
      have HOF : Hid ((wr.setCell ⟨bR, 0, none⟩ (.slice (some ⟨g, 0, none⟩) n cu)).ownsRow w0.heap.size 55 8 (.slice (some ⟨g, 0, none⟩) n cu) n (cellsL pstC (renumG 0 l'))) := Lib.hid (HO.out.kept (setCell_grown _ _) (ownBlock_ne HO.out _ HLL.out.2))
      have HBF : Hid (Below w.heap.size w (wr.setCell ⟨bR, 0, none⟩ (.slice (some ⟨g, 0, none⟩) n cu))) := Lib.hid (HB.out.setCell (by exact HLL.out.1) _)
      have hset := obj_set hr 0 (.slice (some ⟨g, 0, none⟩) n cu)
      simp only [List.setIfInBounds_toArray, List.set_cons_zero] at hset
      have q0 := obj_cell hset 0
      simp at q0
      clear hr hset hend
      go_wp2
      refine bodyPost_ret (v := .agg #[.slice (some ⟨g, 0, none⟩) n cu]) (by simp [results, Try.results35, go_sem, q0]) rfl ⟨_, l', rfl, HPE.out, HSR.out, ?_, HBF.out⟩
      show ListAt pstC 8 _ _ _
      unfold ListAt
      rw [renumG_len, HLN.out]
      exact RowG.owns HOF.out

end Go.Proofs.Ytoccnindkimjdaa

/- A correction's postings in their order, with numbers of their own, are a right ledger. -/
set_option linter.unusedSimpArgs false
set_option linter.unusedVariables false
namespace Go.Proofs.Ytoccnindkimjdaa
open Go.RowKit Go.Lib Go.Proofs

theorem renumG_at : ∀ (n : Nat) (l : List Pst) (i : Nat) (h : i < l.length), (renumG n l)[i]'(by rw [renumG_len]; exact h) = ⟨((n + i : Nat) : Int) + 1, l[i].day, l[i].ent, l[i].deb, l[i].crd, l[i].amt, l[i].par, l[i].ref⟩
  | n, p :: l, 0, _ => rfl
  | n, p :: l, i + 1, h => by
    have := renumG_at (n + 1) l i (by simpa using h)
    simp only [renumG, List.getElem_cons_succ]
    rw [this, show n + 1 + i = n + (i + 1) by omega]
  | _, [], _, h => by simp at h
theorem ldgOk_renum {l : List Pst} (hl : l.length ≤ 400) (hok : ∀ p ∈ l, PstOk p) (hso : l.Pairwise pstLe) : LdgOk (renumG 0 l) := by
  have hat : ∀ i (h : i < l.length), pstAt (renumG 0 l) i = ⟨(i : Int) + 1, l[i].day, l[i].ent, l[i].deb, l[i].crd, l[i].amt, l[i].par, l[i].ref⟩ := fun i h => by
    rw [pstAt_get (by rw [renumG_len]; exact h), renumG_at 0 l i h, Nat.zero_add]
  refine ⟨by rw [renumG_len]; exact hl, fun i hi => ?_, fun i hi => ?_, fun i hi => ?_⟩
  · rw [renumG_len] at hi
    rw [hat i hi]
    obtain ⟨h1, h2, h3, h4, h5, h6, h7, h8, h9, h10⟩ := hok _ (List.getElem_mem hi)
    exact ⟨by show 1 ≤ (i : Int) + 1 ∧ (i : Int) + 1 ≤ 1000000; omega, h2, h3, h4, h5, h6, h7, h8, h9, h10⟩
  · rw [renumG_len] at hi
    rw [hat i hi]
  · rw [renumG_len] at hi
    rw [hat i (by omega), hat (i + 1) hi]
    exact List.pairwise_iff_getElem.1 hso i (i + 1) (by omega) hi (by omega)

end Go.Proofs.Ytoccnindkimjdaa

/- slices.Clone at a struct of 7 cells: a new row of the same elements. -/
set_option linter.unusedSimpArgs false
set_option linter.unusedVariables false
namespace Go.Proofs.Ytoccnindkimjdaa
open Go.RowKit Go.Lib Go.Proofs

theorem Try.infoClnPrs : (Try.prog.info? 40).map (fun i => (i.zero, i.size, i.bytes)) = some (some (.agg #[.int .i64 0, .int .i64 0, .int .i64 0, .int .i64 0, .int .i64 0, .int .i64 0, .int .i64 0]), 7, 56) := by kernel_rfl
set_option maxHeartbeats 2000000 in
theorem clonePrs_any {α : Type} (f : α → List Value) (hf : Fields f 7) (l : List α) (v : Value) (w : World) (h : ListAt f 7 w v l) (hlen : l.length ≤ 1000000) :
    Calls Try.prog 62 #[v] w fun e w' => ∃ v', e = .returned v' ∧ w'.ownsRow w.heap.size 40 7 v' l.length (cellsL f l) ∧ Below w.heap.size w w' := by
  obtain ⟨i0, hi0, hz0, hz1, hz2⟩ := info_parts Try.infoClnPrs
  obtain ⟨ao, cap, rfl, hnews⟩ := h.news hf
  have HN := Lib.hid (fun W (hW : Below w.heap.size w W) => newsOf hf (h.below hW))
  have HL := Lib.hid (cellsL_len hf l)
  have HO := Lib.hid (cellsL_one hf l)
  obtain ⟨n, hn⟩ : ∃ n, n = l.length := ⟨_, rfl⟩
  rw [← hn] at hlen HN HL ⊢
  have q22 : ∀ (w : World) (a : Option Addr) (n c n' c' : Nat), (binOp .eql 28 (.slice a n c) (.slice none n' c')).run Try.prog w = .ok (.bool a.isNone) w := fun w a n c n' c' => Lib.run_eql_slice_nil w _ _ a n c n' c' Try.underlying28
  have HLN : Hid (ao = none → l = []) := Lib.hid (fun he => by
    rcases hnews with h0 | ⟨ad, h1, _⟩
    · exact List.length_eq_zero_iff.1 h0
    · rw [he] at h1; cases h1)
  have HN0 : Hid (n = l.length) := Lib.hid hn
  clear hnews h hn
  cases ao with
  | none =>
    obtain rfl := HLN.out rfl
    obtain rfl : n = 0 := HN0.out
    go_enter Try.func62, Try.ntmps62
    go_wp2
    go_ret
    exact ⟨_, rfl, World.ownsRow_nil _ _ _ _, Below.refl _ _⟩
  | some ad =>
    obtain ⟨b, o, el⟩ := ad
    have HB := Lib.hid (below_alloc w (.cells #[] 40))
    go_enter Try.func62, Try.ntmps62
    go_wp2_with (at_builtin; refine wpList_ownO _ rfl _ _ 28 rfl w.heap.size 40 i0 (.agg #[.int .i64 0, .int .i64 0, .int .i64 0, .int .i64 0, .int .i64 0, .int .i64 0, .int .i64 0]) 7 56 Try.underlying28 hi0 hz0 hz1 hz2 rfl (by decide) (.slice (some ⟨w.heap.size, 0, none⟩) 0 0) 0 [] rfl (World.ownsRow_made w #[] 0 (Nat.le_refl _) (Nat.zero_le _) rfl) (some ⟨b, o, el⟩) n cap (cellsL f l) rfl HL.out (HN.out _ HB.out) HO.out (by unfold maxLen; omega) (by omega) (by simp) ?_; intro v' w4 hown4 hgr4)
    have hB : Below w.heap.size w w4 := HB.out.grown hgr4 (by simp) (by intro k hk; simp [Value.ownBlock] at hk; omega)
    have HO4 := Lib.hid hown4
    have HB4 := Lib.hid hB
    clear hown4 hB hgr4
    go_wp2
    go_ret
    refine ⟨_, rfl, ?_, HB4.out⟩
    have := HO4.out
    rwa [Nat.zero_add, List.nil_append] at this

end Go.Proofs.Ytoccnindkimjdaa

/- Rows of a call's own of different types keep out of each other's way; a history's copy; of no function of the program; no condition. -/
set_option linter.unusedSimpArgs false
set_option linter.unusedVariables false
namespace Go.Proofs.Ytoccnindkimjdaa
open Go.RowKit Go.Lib Go.Proofs

def NotOf (w : World) (r : Option Nat) (T : TypeId) : Prop := ∀ b, r = some b → ∀ cur x, w.heap[b]? ≠ some (.cells cur T x)
theorem notOf_owns {w : World} {base : Nat} {T T' : TypeId} {size : Nat} {v : Value} {n : Nat} {xs : List Value} (h : w.ownsRow base T size v n xs) (hne : T ≠ T') : NotOf w v.ownBlock T' := by
  intro b hb cur x e
  rcases h.2 with ⟨rfl, _⟩ | ⟨g, cap, cur', rfl, _, hg, _⟩
  · simp [Value.ownBlock] at hb
  · simp [Value.ownBlock] at hb
    subst hb
    rw [hg] at e
    injection e with e
    injection e with _ e _
    exact hne e
theorem notOf_box {w : World} {b : Nat} {c : Array Value} {T T' : TypeId} {x : Nat × Nat} (h : w.heap[b]? = some (.cells c T x)) (hne : T ≠ T') : NotOf w (some b) T' := by
  intro b' hb cur x' e
  injection hb with hb
  subst hb
  rw [h] at e
  injection e with e
  injection e with _ e _
  exact hne e
theorem owns_keep {w w' : World} {base : Nat} {T : TypeId} {size : Nat} {v : Value} {n : Nat} {xs : List Value} {r : Option Nat} (h : w.ownsRow base T size v n xs) (hg : w.grownBy w' r) (hr : NotOf w r T) : w'.ownsRow base T size v n xs := by
  refine h.kept hg ?_
  rcases h.2 with ⟨rfl, _⟩ | ⟨g, cap, cur', rfl, _, hh, _⟩
  · exact Or.inl rfl
  · refine Or.inr fun e => ?_
    exact hr g e.symm _ _ hh
theorem box_keep {w w' : World} {r : Option Nat} {b : Nat} {c : Array Value} {T : TypeId} {x : Nat × Nat} (h : w.heap[b]? = some (.cells c T x)) (hg : w.grownBy w' r) (hr : NotOf w r T) : w'.heap[b]? = some (.cells c T x) := by
  have hlt : b < w.heap.size := by
    by_cases hlt : b < w.heap.size
    · exact hlt
    · rw [Array.getElem?_eq_none (by omega)] at h; cases h
  rw [hg.block b hlt (fun e => hr b e.symm _ _ h)]
  exact h
def CorsW (w : World) (base : Nat) : List Crr → List Cor → Prop
  | [], [] => True
  | r :: rs, c :: cs => (r.yr = c.yr ∧ r.fnd = c.fnd ∧ w.ownsRow base 55 8 r.sl.v c.ps.length (cellsL pstC c.ps)) ∧ CorsW w base rs cs
  | [], _ :: _ => False
  | _ :: _, [] => False
theorem CorsW.imp {A B : World} {base : Nat} (hs : ∀ (v : Value) (n : Nat) (l : List Value), A.ownsRow base 55 8 v n l → B.ownsRow base 55 8 v n l) : ∀ {rs : List Crr} {cs : List Cor}, CorsW A base rs cs → CorsW B base rs cs
  | [], [], _ => trivial
  | _ :: _, _ :: _, h => ⟨⟨h.1.1, h.1.2.1, hs _ _ _ h.1.2.2⟩, CorsW.imp hs h.2⟩
  | [], _ :: _, h => h.elim
  | _ :: _, [], h => h.elim
theorem CorsW.mono {w : World} {base base' : Nat} (hb : base' ≤ base) : ∀ {rs : List Crr} {cs : List Cor}, CorsW w base rs cs → CorsW w base' rs cs
  | [], [], _ => trivial
  | _ :: _, _ :: _, h => ⟨⟨h.1.1, h.1.2.1, ownsRow_mono h.1.2.2 hb⟩, CorsW.mono hb h.2⟩
  | [], _ :: _, h => h.elim
  | _ :: _, [], h => h.elim
theorem CorsW.keep {w w' : World} {base : Nat} {rs : List Crr} {cs : List Cor} {r : Option Nat} (h : CorsW w base rs cs) (hg : w.grownBy w' r) (hr : NotOf w r 55) : CorsW w' base rs cs :=
  h.imp fun _ _ _ q => owns_keep q hg hr
theorem CorsW.below {w w' : World} {base : Nat} {rs : List Crr} {cs : List Cor} (h : CorsW w base rs cs) (hb : Below w.heap.size w w') : CorsW w' base rs cs :=
  h.imp fun _ _ _ q => ownsRow_below q hb
theorem CorsW.len {w : World} {base : Nat} : ∀ {rs : List Crr} {cs : List Cor}, CorsW w base rs cs → rs.length = cs.length
  | [], [], _ => rfl
  | _ :: _, _ :: _, h => by simp [CorsW.len h.2]
  | [], _ :: _, h => h.elim
  | _ :: _, [], h => h.elim
theorem CorsW.snoc {w : World} {base : Nat} {r : Crr} {c : Cor} (h1 : r.yr = c.yr) (h2 : r.fnd = c.fnd) (h3 : w.ownsRow base 55 8 r.sl.v c.ps.length (cellsL pstC c.ps)) : ∀ {rs : List Crr} {cs : List Cor}, CorsW w base rs cs → CorsW w base (rs ++ [r]) (cs ++ [c])
  | [], [], _ => ⟨⟨h1, h2, h3⟩, trivial⟩
  | _ :: _, _ :: _, h => ⟨h.1, CorsW.snoc h1 h2 h3 h.2⟩
  | [], _ :: _, h => h.elim
  | _ :: _, [], h => h.elim
theorem psts_owns {w : World} {base : Nat} {v : Value} {l : List Pst} (h : w.ownsRow base 55 8 v l.length (cellsL pstC l)) : PstsAt w v l := by
  unfold PstsAt ListAt
  exact RowG.owns h
theorem CorsW.R {w : World} {base : Nat} : ∀ {rs : List Crr} {cs : List Cor}, CorsW w base rs cs → CorsR w rs cs
  | [], [], _ => trivial
  | _ :: _, _ :: _, h => ⟨⟨h.1.1, h.1.2.1, psts_owns h.1.2.2⟩, CorsW.R h.2⟩
  | [], _ :: _, h => h.elim
  | _ :: _, [], h => h.elim
/-- What a copy of a history holds on the way: rows of its own behind w. -/
structure CpK (w : World) (ul up : Value) (L : List Pst) (P : List Prs) (rs : List Crr) (C : List Cor) (W : World) : Prop where
  bel : Below w.heap.size w W
  led : W.ownsRow w.heap.size 55 8 ul L.length (cellsL pstC L)
  prs : W.ownsRow w.heap.size 40 7 up P.length (cellsL prsC P)
  cor : CorsW W w.heap.size rs C
theorem CpK.keep {w : World} {ul up : Value} {L : List Pst} {P : List Prs} {rs : List Crr} {C : List Cor} {W W' : World} {r : Option Nat} (k : CpK w ul up L P rs C W) (hg : W.grownBy W' r) (h1 : NotOf W r 55) (h2 : NotOf W r 40) (h3 : ∀ b, r = some b → w.heap.size ≤ b) : CpK w ul up L P rs C W' :=
  ⟨k.bel.grown hg k.bel.size h3, owns_keep k.led hg h1, owns_keep k.prs hg h2, k.cor.keep hg h1⟩
theorem CpK.below {w : World} {ul up : Value} {L : List Pst} {P : List Prs} {rs : List Crr} {C : List Cor} {W W' : World} (k : CpK w ul up L P rs C W) (hb : Below W.heap.size W W') : CpK w ul up L P rs C W' :=
  ⟨k.bel.trans (hb.mono k.bel.size), ownsRow_below k.led hb, ownsRow_below k.prs hb, k.cor.below hb⟩
theorem CpK.snoc {w : World} {ul up : Value} {L : List Pst} {P : List Prs} {rs : List Crr} {C : List Cor} {W : World} {r : Crr} {c : Cor} (k : CpK w ul up L P rs C W) (h1 : r.yr = c.yr) (h2 : r.fnd = c.fnd) (h3 : W.ownsRow w.heap.size 55 8 r.sl.v c.ps.length (cellsL pstC c.ps)) : CpK w ul up L P (rs ++ [r]) (C ++ [c]) W :=
  ⟨k.bel, k.led, k.prs, k.cor.snoc h1 h2 h3⟩
theorem cp_first {w W : World} {bN : Nat} {ul up : Value} {L : List Pst} {P : List Prs} (hb : Below w.heap.size w W) (hn : w.heap.size ≤ bN) (hN : W.heap[bN]? = some (.cells #[.slice none 0 0, .slice none 0 0, .slice none 0 0] 31 (0, 0))) (h1 : W.ownsRow w.heap.size 55 8 ul L.length (cellsL pstC L)) (h2 : W.ownsRow w.heap.size 40 7 up P.length (cellsL prsC P)) :
    CpK w ul up L P [] [] (put3 W bN ul up (.slice none 0 0)) ∧ (put3 W bN ul up (.slice none 0 0)).heap[bN]? = some (.cells #[ul, up, .slice none 0 0] 31 (0, 0)) := by
  have k : CpK w ul up L P [] [] W := ⟨hb, h1, h2, trivial⟩
  exact ⟨k.keep (put3_grown2 _ _ _ _ _) (notOf_box hN (by decide)) (notOf_box hN (by decide)) (fun b e => by injection e with e; omega), put3_at hN rfl _ _ _⟩
/-- One correction more, stored in the box of the copy. -/
theorem cp_append {w W W' : World} {bN : Nat} {ul up uq uq' : Value} {L : List Pst} {P : List Prs} {rs : List Crr} {C : List Cor} {k : Nat} {xs : List Value} (hk : CpK w ul up L P rs C W) (ho : W.ownsRow w.heap.size 49 3 uq k xs) (hN : W.heap[bN]? = some (.cells #[ul, up, uq] 31 (0, 0))) (hg : W.grownBy W' uq.ownBlock) :
    CpK w ul up L P rs C W' ∧ W'.heap[bN]? = some (.cells #[ul, up, uq] 31 (0, 0)) :=
  ⟨hk.keep hg (notOf_owns ho (by decide)) (notOf_owns ho (by decide)) (fun b e => ownBlock_le ho b e), box_keep hN hg (notOf_owns ho (by decide))⟩
theorem cp_store {w W : World} {bN : Nat} {ul up uq uq' : Value} {L : List Pst} {P : List Prs} {rs : List Crr} {C : List Cor} {k : Nat} {xs : List Value} (hk : CpK w ul up L P rs C W) (ho : W.ownsRow w.heap.size 49 3 uq' k xs) (hN : W.heap[bN]? = some (.cells #[ul, up, uq] 31 (0, 0))) (hn : w.heap.size ≤ bN) :
    CpK w ul up L P rs C (W.setCell ⟨bN, 2, none⟩ uq') ∧ (W.setCell ⟨bN, 2, none⟩ uq').ownsRow w.heap.size 49 3 uq' k xs ∧ (W.setCell ⟨bN, 2, none⟩ uq').heap[bN]? = some (.cells #[ul, up, uq'] 31 (0, 0)) := by
  have hg : W.grownBy (W.setCell ⟨bN, 2, none⟩ uq') (some bN) := setCell_grown _ _
  have hset := obj_set hN 2 uq'
  simp only [List.setIfInBounds_toArray, List.set_cons_zero, List.set_cons_succ] at hset
  exact ⟨hk.keep hg (notOf_box hN (by decide)) (notOf_box hN (by decide)) (fun b e => by injection e with e; omega), owns_keep ho hg (notOf_box hN (by decide)), hset⟩

end Go.Proofs.Ytoccnindkimjdaa
