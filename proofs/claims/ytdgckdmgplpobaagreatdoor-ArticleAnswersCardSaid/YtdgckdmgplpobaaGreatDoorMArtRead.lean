/- The contract of article.read: the article whose text has a form, and whether there is one; for texts of up to 10^6 bytes. -/
import Derived.Test.YtdgckdmgplpobaaGreatDoorMG2
import Derived.Test.YtdgckdmgplpobaaGreatDoorMG1
set_option linter.unusedSimpArgs false
set_option linter.unusedVariables false
namespace Go.Proofs.YtdgckdmgplpobaaGreatDoor
open Go.RowKit Go.Lib Go.Proofs

attribute [local go_sem] Oper.semAt_some

def ReadP (w : World) (r : Option Art) (e : Ending) (w' : World) : Prop :=
  (match r with
    | some a => e = .returned (.tuple #[.agg a.cells, .bool true])
    | none => e = .returned (.tuple #[.agg Art.none.cells, .bool false])) ∧ Below w.heap.size w w'

def readW (f : Form) (a : Art) (ws : List ByteArray) (N : Nat) (w : World) : World :=
  (((((w.alloc (.cells f.cells 60)).alloc (.cells Art.none.cells 24)).alloc (.cells #[.bool false] 4)).alloc (.cells a.cells 24)).alloc (.cells (cellsOf ws N) 9)).alloc (.cells #[.slice (some ⟨w.heap.size + 1 + 1 + 1 + 1, 0, none⟩) ws.length N] 37)

structure RdInv (w : World) (f : Form) (a0 : Art) (ws : List ByteArray) (N : Nat) (pre : List ByteArray) (W : World) : Prop where
  st : ∃ (a : Art) (ad : Addr) (c : Nat), pre.length ≤ f.parts.length ∧ pre.length ≤ ws.length ∧ readGo a0 f.parts ws = readGo a (f.parts.drop pre.length) (ws.drop pre.length) ∧ ArtAt W (w.heap.size + 1 + 1 + 1) a ∧ Boxed W (w.heap.size + 1 + 1 + 1 + 1 + 1) 37 (.slice (some ad) (ws.length - pre.length) c) ∧ ws.length - pre.length ≤ c ∧ (pre.length < ws.length → ad = ⟨w.heap.size + 1 + 1 + 1 + 1, pre.length, none⟩)
  res : ArtAt W (w.heap.size + 1) Art.none
  okb : Boxed W (w.heap.size + 1 + 1) 4 (.bool false)
  row : W.heap[w.heap.size + 1 + 1 + 1 + 1]? = some (.cells (cellsOf ws N) 9 (0, 0))
  old : Below w.heap.size w W
  top : w.heap.size + 9 ≤ W.heap.size

theorem RdInv.step {w : World} {f : Form} {a0 : Art} {ws : List ByteArray} {N : Nat} {pre : List ByteArray} {A B : World} {row : Option Nat} (h : RdInv w f a0 ws N pre A) (hg : A.grownBy B row) (hr : ∀ r, row = some r → w.heap.size + 6 ≤ r) : RdInv w f a0 ws N pre B := by
  obtain ⟨⟨a, ad, c, h1, h2, h3, h4, h5, h6, h7⟩, q1, q2, q3, q4, q5⟩ := h
  have hk : ∀ k, k < w.heap.size + 6 → B.heap[k]? = A.heap[k]? := fun k hk => hg.block k (by omega) (fun e => by have := hr k e.symm; omega)
  exact ⟨⟨a, ad, c, h1, h2, h3, (hk _ (by omega)).trans h4, (hk _ (by omega)).trans h5, h6, h7⟩, (hk _ (by omega)).trans q1, (hk _ (by omega)).trans q2, (hk _ (by omega)).trans q3, q4.grown hg q4.size fun j e => by have := hr j e; omega, Nat.le_trans q5 hg.size⟩

structure RdBad (w : World) (f : Form) (a0 : Art) (ws : List ByteArray) (c : Code) (W : World) : Prop where
  ret : c = .ret
  bad : readGo a0 f.parts ws = none
  res : ArtAt W (w.heap.size + 1) Art.none
  okb : Boxed W (w.heap.size + 1 + 1) 4 (.bool false)
  old : Below w.heap.size w W

theorem RdBad.step {w : World} {f : Form} {a0 : Art} {ws : List ByteArray} {c : Code} {A B : World} {row : Option Nat} (h : RdBad w f a0 ws c A) (hg : A.grownBy B row) (hr : ∀ r, row = some r → w.heap.size + 6 ≤ r) : RdBad w f a0 ws c B := by
  have h1 := h.okb
  exact ⟨h.ret, h.bad, (hg.block _ h.res.lt (fun e => by have := hr _ e.symm; omega)).trans h.res, (hg.block _ h1.lt (fun e => by have := hr _ e.symm; omega)).trans h1, h.old.grown hg h.old.size fun j e => by have := hr j e; omega⟩

theorem readGo_end {a : Art} {f : Fd} {fs : List Fd} : readGo a (f :: fs) [] = none := rfl
theorem readGo_step {a : Art} {f : Fd} {fs : List Fd} {x : ByteArray} {xs : List ByteArray} : readGo a (f :: fs) (x :: xs) = if (takeOf a f x).2 = true then readGo (takeOf a f x).1 fs xs else none := rfl

def putArt (W : World) (b : Nat) (kd : Int) (cd ot nm : ByteArray) (yr am pc nu dy ls wh : Int) : World := (((((((((((W.setCell ⟨b, 0, none⟩ (.int .i64 kd)).setCell ⟨b, 1, none⟩ (.string cd)).setCell ⟨b, 2, none⟩ (.string ot)).setCell ⟨b, 3, none⟩ (.string nm)).setCell ⟨b, 4, none⟩ (.int .i64 yr)).setCell ⟨b, 5, none⟩ (.int .i64 am)).setCell ⟨b, 6, none⟩ (.int .i64 pc)).setCell ⟨b, 7, none⟩ (.int .i64 nu)).setCell ⟨b, 8, none⟩ (.int .i64 dy)).setCell ⟨b, 9, none⟩ (.int .i64 ls)).setCell ⟨b, 10, none⟩ (.int .i64 wh))
theorem putArt_at {W : World} {b : Nat} {a : Art} (h : ArtAt W b a) (kd : Int) (cd ot nm : ByteArray) (yr am pc nu dy ls wh : Int) : ArtAt (putArt W b kd cd ot nm yr am pc nu dy ls wh) b ⟨kd, cd, ot, nm, yr, am, pc, nu, dy, ls, wh⟩ := by
  have h0 : (W.setCell ⟨b, 0, none⟩ (.int .i64 kd)).heap[b]? = some (.cells #[.int .i64 kd, .string (a.code), .string (a.other), .string (a.name), .int .i64 (a.year), .int .i64 (a.amount), .int .i64 (a.percent), .int .i64 (a.number), .int .i64 (a.day), .int .i64 (a.least), .int .i64 (a.what)] 24 (0, 0)) := (art_set h 0 (.int .i64 kd)).trans rfl
  have h1 : ((W.setCell ⟨b, 0, none⟩ (.int .i64 kd)).setCell ⟨b, 1, none⟩ (.string cd)).heap[b]? = some (.cells #[.int .i64 kd, .string cd, .string (a.other), .string (a.name), .int .i64 (a.year), .int .i64 (a.amount), .int .i64 (a.percent), .int .i64 (a.number), .int .i64 (a.day), .int .i64 (a.least), .int .i64 (a.what)] 24 (0, 0)) := (art_set h0 1 (.string cd)).trans rfl
  have h2 : (((W.setCell ⟨b, 0, none⟩ (.int .i64 kd)).setCell ⟨b, 1, none⟩ (.string cd)).setCell ⟨b, 2, none⟩ (.string ot)).heap[b]? = some (.cells #[.int .i64 kd, .string cd, .string ot, .string (a.name), .int .i64 (a.year), .int .i64 (a.amount), .int .i64 (a.percent), .int .i64 (a.number), .int .i64 (a.day), .int .i64 (a.least), .int .i64 (a.what)] 24 (0, 0)) := (art_set h1 2 (.string ot)).trans rfl
  have h3 : ((((W.setCell ⟨b, 0, none⟩ (.int .i64 kd)).setCell ⟨b, 1, none⟩ (.string cd)).setCell ⟨b, 2, none⟩ (.string ot)).setCell ⟨b, 3, none⟩ (.string nm)).heap[b]? = some (.cells #[.int .i64 kd, .string cd, .string ot, .string nm, .int .i64 (a.year), .int .i64 (a.amount), .int .i64 (a.percent), .int .i64 (a.number), .int .i64 (a.day), .int .i64 (a.least), .int .i64 (a.what)] 24 (0, 0)) := (art_set h2 3 (.string nm)).trans rfl
  have h4 : (((((W.setCell ⟨b, 0, none⟩ (.int .i64 kd)).setCell ⟨b, 1, none⟩ (.string cd)).setCell ⟨b, 2, none⟩ (.string ot)).setCell ⟨b, 3, none⟩ (.string nm)).setCell ⟨b, 4, none⟩ (.int .i64 yr)).heap[b]? = some (.cells #[.int .i64 kd, .string cd, .string ot, .string nm, .int .i64 yr, .int .i64 (a.amount), .int .i64 (a.percent), .int .i64 (a.number), .int .i64 (a.day), .int .i64 (a.least), .int .i64 (a.what)] 24 (0, 0)) := (art_set h3 4 (.int .i64 yr)).trans rfl
  have h5 : ((((((W.setCell ⟨b, 0, none⟩ (.int .i64 kd)).setCell ⟨b, 1, none⟩ (.string cd)).setCell ⟨b, 2, none⟩ (.string ot)).setCell ⟨b, 3, none⟩ (.string nm)).setCell ⟨b, 4, none⟩ (.int .i64 yr)).setCell ⟨b, 5, none⟩ (.int .i64 am)).heap[b]? = some (.cells #[.int .i64 kd, .string cd, .string ot, .string nm, .int .i64 yr, .int .i64 am, .int .i64 (a.percent), .int .i64 (a.number), .int .i64 (a.day), .int .i64 (a.least), .int .i64 (a.what)] 24 (0, 0)) := (art_set h4 5 (.int .i64 am)).trans rfl
  have h6 : (((((((W.setCell ⟨b, 0, none⟩ (.int .i64 kd)).setCell ⟨b, 1, none⟩ (.string cd)).setCell ⟨b, 2, none⟩ (.string ot)).setCell ⟨b, 3, none⟩ (.string nm)).setCell ⟨b, 4, none⟩ (.int .i64 yr)).setCell ⟨b, 5, none⟩ (.int .i64 am)).setCell ⟨b, 6, none⟩ (.int .i64 pc)).heap[b]? = some (.cells #[.int .i64 kd, .string cd, .string ot, .string nm, .int .i64 yr, .int .i64 am, .int .i64 pc, .int .i64 (a.number), .int .i64 (a.day), .int .i64 (a.least), .int .i64 (a.what)] 24 (0, 0)) := (art_set h5 6 (.int .i64 pc)).trans rfl
  have h7 : ((((((((W.setCell ⟨b, 0, none⟩ (.int .i64 kd)).setCell ⟨b, 1, none⟩ (.string cd)).setCell ⟨b, 2, none⟩ (.string ot)).setCell ⟨b, 3, none⟩ (.string nm)).setCell ⟨b, 4, none⟩ (.int .i64 yr)).setCell ⟨b, 5, none⟩ (.int .i64 am)).setCell ⟨b, 6, none⟩ (.int .i64 pc)).setCell ⟨b, 7, none⟩ (.int .i64 nu)).heap[b]? = some (.cells #[.int .i64 kd, .string cd, .string ot, .string nm, .int .i64 yr, .int .i64 am, .int .i64 pc, .int .i64 nu, .int .i64 (a.day), .int .i64 (a.least), .int .i64 (a.what)] 24 (0, 0)) := (art_set h6 7 (.int .i64 nu)).trans rfl
  have h8 : (((((((((W.setCell ⟨b, 0, none⟩ (.int .i64 kd)).setCell ⟨b, 1, none⟩ (.string cd)).setCell ⟨b, 2, none⟩ (.string ot)).setCell ⟨b, 3, none⟩ (.string nm)).setCell ⟨b, 4, none⟩ (.int .i64 yr)).setCell ⟨b, 5, none⟩ (.int .i64 am)).setCell ⟨b, 6, none⟩ (.int .i64 pc)).setCell ⟨b, 7, none⟩ (.int .i64 nu)).setCell ⟨b, 8, none⟩ (.int .i64 dy)).heap[b]? = some (.cells #[.int .i64 kd, .string cd, .string ot, .string nm, .int .i64 yr, .int .i64 am, .int .i64 pc, .int .i64 nu, .int .i64 dy, .int .i64 (a.least), .int .i64 (a.what)] 24 (0, 0)) := (art_set h7 8 (.int .i64 dy)).trans rfl
  have h9 : ((((((((((W.setCell ⟨b, 0, none⟩ (.int .i64 kd)).setCell ⟨b, 1, none⟩ (.string cd)).setCell ⟨b, 2, none⟩ (.string ot)).setCell ⟨b, 3, none⟩ (.string nm)).setCell ⟨b, 4, none⟩ (.int .i64 yr)).setCell ⟨b, 5, none⟩ (.int .i64 am)).setCell ⟨b, 6, none⟩ (.int .i64 pc)).setCell ⟨b, 7, none⟩ (.int .i64 nu)).setCell ⟨b, 8, none⟩ (.int .i64 dy)).setCell ⟨b, 9, none⟩ (.int .i64 ls)).heap[b]? = some (.cells #[.int .i64 kd, .string cd, .string ot, .string nm, .int .i64 yr, .int .i64 am, .int .i64 pc, .int .i64 nu, .int .i64 dy, .int .i64 ls, .int .i64 (a.what)] 24 (0, 0)) := (art_set h8 9 (.int .i64 ls)).trans rfl
  have h10 : (((((((((((W.setCell ⟨b, 0, none⟩ (.int .i64 kd)).setCell ⟨b, 1, none⟩ (.string cd)).setCell ⟨b, 2, none⟩ (.string ot)).setCell ⟨b, 3, none⟩ (.string nm)).setCell ⟨b, 4, none⟩ (.int .i64 yr)).setCell ⟨b, 5, none⟩ (.int .i64 am)).setCell ⟨b, 6, none⟩ (.int .i64 pc)).setCell ⟨b, 7, none⟩ (.int .i64 nu)).setCell ⟨b, 8, none⟩ (.int .i64 dy)).setCell ⟨b, 9, none⟩ (.int .i64 ls)).setCell ⟨b, 10, none⟩ (.int .i64 wh)).heap[b]? = some (.cells #[.int .i64 kd, .string cd, .string ot, .string nm, .int .i64 yr, .int .i64 am, .int .i64 pc, .int .i64 nu, .int .i64 dy, .int .i64 ls, .int .i64 wh] 24 (0, 0)) := (art_set h9 10 (.int .i64 wh)).trans rfl
  exact h10
theorem setCell_other (W : World) {b k j : Nat} (v : Value) (h : k ≠ b) : (W.setCell ⟨b, j, none⟩ v).heap[k]? = W.heap[k]? := Below.heap_setCell W _ _ k h
theorem putArt_other {W : World} {b k : Nat} (kd : Int) (cd ot nm : ByteArray) (yr am pc nu dy ls wh : Int) (h : k ≠ b) : (putArt W b kd cd ot nm yr am pc nu dy ls wh).heap[k]? = W.heap[k]? := by
  unfold putArt
  rw [setCell_other _ _ h, setCell_other _ _ h, setCell_other _ _ h, setCell_other _ _ h, setCell_other _ _ h, setCell_other _ _ h, setCell_other _ _ h, setCell_other _ _ h, setCell_other _ _ h, setCell_other _ _ h, setCell_other _ _ h]
theorem putArt_below {n₀ : Nat} {w W : World} {b : Nat} (kd : Int) (cd ot nm : ByteArray) (yr am pc nu dy ls wh : Int) (h : Below n₀ w W) (hb : n₀ ≤ b) : Below n₀ w (putArt W b kd cd ot nm yr am pc nu dy ls wh) := by
  unfold putArt
  exact ((((((((((h.setCell (by exact hb) _).setCell (by exact hb) _).setCell (by exact hb) _).setCell (by exact hb) _).setCell (by exact hb) _).setCell (by exact hb) _).setCell (by exact hb) _).setCell (by exact hb) _).setCell (by exact hb) _).setCell (by exact hb) _).setCell (by exact hb) _
theorem putArt_others (W : World) (b : Nat) (kd : Int) (cd ot nm : ByteArray) (yr am pc nu dy ls wh : Int) : KeepsOthers W (putArt W b kd cd ot nm yr am pc nu dy ls wh) := by
  unfold putArt
  exact ((((((((((KeepsOthers.setCell _ _ _).trans (KeepsOthers.setCell _ _ _)).trans (KeepsOthers.setCell _ _ _)).trans (KeepsOthers.setCell _ _ _)).trans (KeepsOthers.setCell _ _ _)).trans (KeepsOthers.setCell _ _ _)).trans (KeepsOthers.setCell _ _ _)).trans (KeepsOthers.setCell _ _ _)).trans (KeepsOthers.setCell _ _ _)).trans (KeepsOthers.setCell _ _ _)).trans (KeepsOthers.setCell _ _ _)

def endBad (w A : World) : World := (putArt A (w.heap.size + 1) 0 ⟨#[]⟩ ⟨#[]⟩ ⟨#[]⟩ 0 0 0 0 0 0 0).setCell ⟨w.heap.size + 1 + 1, 0, none⟩ (.bool false)
theorem rd_bad {w A : World} {f : Form} {a0 : Art} {ws : List ByteArray} (hbad : readGo a0 f.parts ws = none) (hres : ArtAt A (w.heap.size + 1) Art.none) (hok : Boxed A (w.heap.size + 1 + 1) 4 (.bool false)) (hold : Below w.heap.size w A) : KeepsOthers A (endBad w A) ∧ RdBad w f a0 ws .ret (endBad w A) := by
  have h1 := putArt_at hres 0 ⟨#[]⟩ ⟨#[]⟩ ⟨#[]⟩ 0 0 0 0 0 0 0
  have h2 : Boxed (putArt A (w.heap.size + 1) 0 ⟨#[]⟩ ⟨#[]⟩ ⟨#[]⟩ 0 0 0 0 0 0 0) (w.heap.size + 1 + 1) 4 (.bool false) := (putArt_other 0 ⟨#[]⟩ ⟨#[]⟩ ⟨#[]⟩ 0 0 0 0 0 0 0 (by omega)).trans hok
  refine ⟨(putArt_others A _ 0 ⟨#[]⟩ ⟨#[]⟩ ⟨#[]⟩ 0 0 0 0 0 0 0).trans (KeepsOthers.setCell _ _ _), ⟨rfl, hbad, (setCell_other _ _ (by omega)).trans h1, h2.set _, (putArt_below 0 ⟨#[]⟩ ⟨#[]⟩ ⟨#[]⟩ 0 0 0 0 0 0 0 hold (by omega)).setCell (by show w.heap.size ≤ w.heap.size + 1 + 1; omega) _⟩⟩

theorem cellsOf_at {ws : List ByteArray} {N k : Nat} (hk : k < ws.length) : (cellsOf ws N)[k]? = some (.string ws[k]) := by
  unfold cellsOf
  rw [List.getElem?_toArray, List.getElem?_append_left (by simpa using hk)]
  simp [hk]

theorem readW_size (f : Form) (a : Art) (ws : List ByteArray) (N : Nat) (w : World) : (readW f a ws N w).heap.size = w.heap.size + 6 := by simp [readW]
theorem readW_inv (f : Form) (a : Art) (ws : List ByteArray) (N : Nat) (w : World) (hN : ws.length ≤ N) : RdInv w f a ws N [] (splitWorld f.text 32 (readW f a ws N w)) := by
  have hb := splitWorld_below f.text 32 (readW f a ws N w)
  have hz := readW_size f a ws N w
  have hk : ∀ k, k < w.heap.size + 6 → (splitWorld f.text 32 (readW f a ws N w)).heap[k]? = (readW f a ws N w).heap[k]? := fun k hk => hb.block k (by omega)
  have hold : Below w.heap.size w (readW f a ws N w) := by
    unfold readW
    exact (((((((Below.refl _ w).alloc (Nat.le_refl _) _).alloc (by simp) _).alloc (by first | (simp; done) | (simp; omega)) _).alloc (by first | (simp; done) | (simp; omega)) _).alloc (by first | (simp; done) | (simp; omega)) _).alloc (by first | (simp; done) | (simp; omega)) _)
  have h1 : ∀ (u : World) (o : Obj) (n : Nat), u.heap.size = n → (u.alloc o).heap[n]? = some o := fun u o n h => by rw [← h]; exact heap_alloc_new u o
  have h2 : ∀ (u : World) (o : Obj) (n : Nat), n < u.heap.size → (u.alloc o).heap[n]? = u.heap[n]? := fun u o n h => Below.heap_alloc _ _ _ h
  refine ⟨⟨a, ⟨w.heap.size + 1 + 1 + 1 + 1, 0, none⟩, N, Nat.zero_le _, Nat.zero_le _, rfl, ?_, ?_, hN, fun _ => rfl⟩, ?_, ?_, ?_, hold.trans (hb.mono hold.size), by rw [splitWorld_size, hz]; omega⟩
  · refine (hk _ (by omega)).trans ?_
    unfold readW
    rw [h2 _ _ _ (by first | (simp; done) | (simp; omega)), h2 _ _ _ (by first | (simp; done) | (simp; omega))]
    exact h1 _ _ _ (by simp)
  · refine (hk _ (by omega)).trans ?_
    unfold readW
    exact h1 _ _ _ (by simp)
  · refine (hk _ (by omega)).trans ?_
    unfold readW
    rw [h2 _ _ _ (by first | (simp; done) | (simp; omega)), h2 _ _ _ (by first | (simp; done) | (simp; omega)), h2 _ _ _ (by first | (simp; done) | (simp; omega)), h2 _ _ _ (by first | (simp; done) | (simp; omega))]
    exact h1 _ _ _ (by simp)
  · refine (hk _ (by omega)).trans ?_
    unfold readW
    rw [h2 _ _ _ (by first | (simp; done) | (simp; omega)), h2 _ _ _ (by first | (simp; done) | (simp; omega)), h2 _ _ _ (by first | (simp; done) | (simp; omega))]
    exact h1 _ _ _ (by simp)
  · refine (hk _ (by omega)).trans ?_
    unfold readW
    rw [h2 _ _ _ (by first | (simp; done) | (simp; omega))]
    exact h1 _ _ _ (by simp)

theorem rd_keeps {w A A1 : World} {v : Value} (hg : A.grownBy A1 (some (w.heap.size + 1 + 1 + 1))) (_ : Below w.heap.size w A) (htop : w.heap.size + 9 ≤ A.heap.size) : KeepsThree (w.heap.size + 1 + 1 + 1 + 1 + 1 + 1) (w.heap.size + 1 + 1 + 1 + 1 + 1 + 1 + 1) (w.heap.size + 1 + 1 + 1 + 1 + 1 + 1 + 2) A (A1.setCell ⟨w.heap.size + 1 + 1 + 1 + 1 + 1, 0, none⟩ v) := by
  have hk : ∀ k, w.heap.size + 6 ≤ k → k < w.heap.size + 9 → (A1.setCell ⟨w.heap.size + 1 + 1 + 1 + 1 + 1, 0, none⟩ v).heap[k]? = A.heap[k]? := fun k h1 h2 => by
    rw [setCell_other _ _ (by omega), hg.block k (by omega) (fun e => by injection e; omega)]
  exact ⟨hk _ (by omega) (by omega), hk _ (by omega) (by omega), hk _ (by omega) (by omega)⟩

theorem rd_next {w A A1 : World} {f : Form} {a0 a' : Art} {ws : List ByteArray} {N k q c' : Nat} {ad : Addr} {pre : List ByteArray} {x : ByteArray} {v : Value} (hlen : ∀ y : ByteArray, (pre ++ [y]).length = k + 1) (hold : Below w.heap.size w A) (hres : ArtAt A (w.heap.size + 1) Art.none) (hok : Boxed A (w.heap.size + 1 + 1) 4 (.bool false)) (hrow : A.heap[w.heap.size + 1 + 1 + 1 + 1]? = some (.cells (cellsOf ws N) 9 (0, 0))) (htop : w.heap.size + 9 ≤ A.heap.size)
    (_h1 : k ≤ f.parts.length) (hlt : k < ws.length) (hk : k < f.parts.length) (hgo : readGo a0 f.parts ws = readGo a' (f.parts.drop (k + 1)) (ws.drop (k + 1))) (ha : ArtAt A1 (w.heap.size + 1 + 1 + 1) a') (hg : A.grownBy A1 (some (w.heap.size + 1 + 1 + 1))) (h5 : Boxed A (w.heap.size + 1 + 1 + 1 + 1 + 1) 37 v)
    (hq : ws.length - (k + 1) = q) (hc : q ≤ c') (had : k + 1 < ws.length → ad = ⟨w.heap.size + 1 + 1 + 1 + 1, k + 1, none⟩) : RdInv w f a0 ws N (pre ++ [x]) (A1.setCell ⟨w.heap.size + 1 + 1 + 1 + 1 + 1, 0, none⟩ (.slice (some ad) q c')) := by
  have hkeep : ∀ j, j < w.heap.size + 9 → j ≠ w.heap.size + 1 + 1 + 1 → A1.heap[j]? = A.heap[j]? := fun j h1 h2 => hg.block j (by omega) (fun e => by injection e; omega)
  have hset : ∀ j, j < w.heap.size + 9 → j ≠ w.heap.size + 1 + 1 + 1 → j ≠ w.heap.size + 1 + 1 + 1 + 1 + 1 → (A1.setCell ⟨w.heap.size + 1 + 1 + 1 + 1 + 1, 0, none⟩ (.slice (some ad) q c')).heap[j]? = A.heap[j]? := fun j h1 h2 h3 => by rw [setCell_other _ _ h3, hkeep j h1 h2]
  have hb : Boxed A1 (w.heap.size + 1 + 1 + 1 + 1 + 1) 37 v := (hkeep _ (by omega) (by omega)).trans h5
  refine ⟨⟨a', ad, c', by rw [hlen]; exact hk, by rw [hlen]; exact hlt, by rw [hlen]; exact hgo, (setCell_other _ _ (by omega)).trans ha, ?_, by rw [hlen, hq]; exact hc, fun h => by rw [hlen] at h ⊢; exact had h⟩, (hset _ (by omega) (by omega) (by omega)).trans hres, (hset _ (by omega) (by omega) (by omega)).trans hok, (hset _ (by omega) (by omega) (by omega)).trans hrow, ?_, ?_⟩
  · rw [hlen, hq]; exact hb.set _
  · exact (hold.grown hg hold.size fun j e => by cases e; omega).setCell (by show w.heap.size ≤ w.heap.size + 1 + 1 + 1 + 1 + 1; omega) _
  · rw [World.size_setCell]; have := hg.size; omega

theorem next_part {f : Form} (hf : f ∈ formsL) {pre : List ByteArray} {x : ByteArray} (hp : (pre ++ [x]) <+: wordsB 32 f.text) : ∃ hk : pre.length < f.parts.length, x = (f.parts[pre.length]).text ∧ litOk f.parts[pre.length] = true := by
  rw [form_words hf] at hp
  obtain ⟨r, hr⟩ := hp
  have h1 := congrArg List.length hr
  simp at h1
  have hk : pre.length < f.parts.length := by omega
  refine ⟨hk, ?_, List.all_eq_true.1 (forms_parts f hf).2.1 _ (List.getElem_mem hk)⟩
  have h2 := congrArg (fun l => l[pre.length]?) hr
  simp [hk] at h2
  exact h2

theorem words_len (k : Nat) (t : ByteArray) : ((cutK k t.data.toList).map txt).length ≤ min (k + 1) (t.size + 1) := by
  rw [List.length_map, size_list]
  have h1 := splitK_len k t.data.toList
  have h2 := splitK_len2 k t.data.toList
  omega

set_option maxRecDepth 100000 in
set_option maxHeartbeats 8000000 in
theorem read_any (f : Form) (hf : f ∈ formsL) (t : ByteArray) (w : World) (hL : Lay w) (hs : t.size ≤ 1000000) :
    Calls Tryz.prog 39 #[.agg #[.int .i64 f.kind, .int .i64 f.what, .string f.text], .string t] w (ReadP w (readOf f t)) := by
  refine (callsIn_wide (n := 0)).1 ?_
  obtain ⟨m, hm⟩ : ∃ m, f.parts.length = m + 1 := by
    have := (forms_parts f hf).1
    cases h : f.parts with
    | nil => rw [h] at this; cases this
    | cons p l => exact ⟨l.length, rfl⟩
  have hm7 := (forms_small f hf).2
  have hft := (forms_small f hf).1
  have hcn := forms_count f hf
  obtain ⟨ws, hws⟩ : ∃ ws, ws = (cutK m t.data.toList).map txt := ⟨_, rfl⟩
  obtain ⟨N, hN⟩ : ∃ N, N = min (m + 1) (t.size + 1) := ⟨_, rfl⟩
  have hro : readOf f t = readGo { Art.none with kind := f.kind, what := f.what } f.parts ws := by unfold readOf; rw [hm, Nat.add_sub_cancel, ← hws]
  have hwN : ws.length ≤ N := by rw [hws, hN]; exact words_len m t
  have hwz : ∀ x ∈ ws, x.size ≤ 1000000 := fun x hx => by
    rw [hws] at hx
    obtain ⟨y, hy, rfl⟩ := List.mem_map.1 hx
    have := splitK_sizes m t.data.toList y hy
    rw [txt_size]
    rw [← size_list] at this
    omega
  have hct : ∀ W, CallsIn Fence.wide 0 Tryz.prog 57 #[.string f.text, .string ⟨#[32]⟩] W fun e w' => e = .returned (.int .i64 (m : Int)) ∧ w' = W := fun W => callsIn_wide.2 (by
    have := Tryz.strings_Count_one f.text 32 W
    rw [show countByte f.text.data.toList 32 = m by have h := hcn; rw [hm, Nat.add_sub_cancel] at h; exact h] at this
    exact this)
  have hsn : ∀ W, Lay W → CallsIn Fence.wide 0 Tryz.prog 56 #[.string t, .string ⟨#[32]⟩, .int .i64 (1 + (m : Int))] W fun e w' => e = .returned (.slice (some ⟨W.heap.size, 0, none⟩) ws.length N) ∧ w' = W.alloc (.cells (cellsOf ws N) 9) := fun W hW => callsIn_wide.2 (by
    obtain ⟨q, hq⟩ := hW.max
    have := Tryz.strings_SplitN t ⟨#[32]⟩ (m + 1) q W (by omega) hq (by decide) (by omega) (by omega)
    rw [splitN_cut, Nat.add_sub_cancel, ← hws, ← hN, show (((m + 1 : Nat)) : Int) = 1 + (m : Int) by omega] at this
    exact this)
  have hlay4 : ∀ o1 o2 o3 o4, Lay ((((w.alloc o1).alloc o2).alloc o3).alloc o4) := fun o1 o2 o3 o4 => hL.below (((((Below.refl _ w).alloc (Nat.le_refl _) o1).alloc (by simp) o2).alloc (by first | (simp; done) | (simp; omega)) o3).alloc (by first | (simp; done) | (simp; omega)) o4) (Nat.le_refl _)
  obtain ⟨a0, ha0⟩ : ∃ a0 : Art, a0 = { Art.none with kind := f.kind, what := f.what } := ⟨_, rfl⟩
  have HA0 := Lib.hid ha0
  have HC := Lib.hid hct
  have HSN := Lib.hid hsn
  have HLAY4 := Lib.hid hlay4
  have HL := Lib.hid hL
  have HWZ := Lib.hid hwz
  have HF := Lib.hid hf
  rw [hro]
  rw [← ha0]
  have hm6 : (m : Int) ≤ 6 := by omega
  have hN1 : N ≤ 7 := by omega
  clear ha0 hct hsn hlay4 hL hwz hws hN hcn hro hf
  refine callsIn_of_wp_marks Tryz.func39 rfl trivial ?_ rfl
  simp only [Tryz.ntmps39, List.size_toArray, List.length_cons, List.length_nil, Nat.reduceAdd, Nat.reduceSub, Array.replicate_succ, Array.replicate_zero, List.push_toArray, List.append_toArray, List.nil_append, List.cons_append]
  gi_wp2_with (first
    | (refine ⟨trivial, rfl, ?_⟩; gi_at_call 57; refine (HC.out _).mono ?_; rintro e w' ⟨rfl, rfl⟩)
    | (refine ⟨trivial, rfl, ?_⟩; gi_at_call 56; refine (HSN.out _ (HLAY4.out _ _ _ _)).mono ?_; rintro e w' ⟨rfl, rfl⟩)
    | (refine ⟨trivial, rfl, ?_⟩; gi_at_call 53; refine (callsIn_wide.2 (SplitSeq_any f.text 32 _)).mono ?_; rintro e w' ⟨rfl, rfl⟩))
  obtain ⟨W1, hW1⟩ : ∃ W1, W1 = splitWorld f.text 32 (readW f a0 ws N w) := ⟨_, rfl⟩
  have hinv : RdInv w f a0 ws N [] W1 := by rw [hW1]; exact readW_inv f a0 ws N w hwN
  have hsp : SplitAt (w.heap.size + 1 + 1 + 1 + 1 + 1 + 1) 32 f.text W1 := by
    have := splitWorld_at f.text 32 (readW f a0 ws N w)
    rw [readW_size] at this
    rw [hW1]; exact this
  have hsz : W1.heap.size = w.heap.size + 9 := by rw [hW1, splitWorld_size, readW_size]
  have hg0 : splitWorld f.text 32 ((((((w.alloc (.cells #[.int .i64 f.kind, .int .i64 f.what, .string f.text] 60)).alloc (.cells #[.int .i64 0, .string ⟨#[]⟩, .string ⟨#[]⟩, .string ⟨#[]⟩, .int .i64 0, .int .i64 0, .int .i64 0, .int .i64 0, .int .i64 0, .int .i64 0, .int .i64 0] 24)).alloc (.cells #[.bool false] 4)).alloc (.cells #[.int .i64 f.kind, .string ⟨#[]⟩, .string ⟨#[]⟩, .string ⟨#[]⟩, .int .i64 0, .int .i64 0, .int .i64 0, .int .i64 0, .int .i64 0, .int .i64 0, .int .i64 f.what] 24)).alloc (.cells (cellsOf ws N) 9)).alloc (.cells #[.slice (some ⟨w.heap.size + 1 + 1 + 1 + 1, 0, none⟩) ws.length N] 37)) = W1 := by rw [hW1, HA0.out]; rfl
  rw [hg0]
  clear hg0 hW1
  refine range_cell (gf := 93) (lb := #[.pointer (some ⟨w.heap.size + 1 + 1 + 1 + 1 + 1 + 1 + 1, 0, none⟩), .pointer (some ⟨w.heap.size + 1 + 1 + 1 + 1 + 1 + 1, 0, none⟩), .pointer (some ⟨w.heap.size + 1 + 1 + 1 + 1 + 1 + 1 + 2, 0, none⟩)]) rfl (enters_of Tryz.func93 (by kernel_rfl) rfl)
    (splitSeqC_in 32 f.text (w.heap.size + 1 + 1 + 1 + 1 + 1 + 1) _ hsp (by omega)) (by omega) keepsThree_t (keepsThree_b (by omega) (by omega) (by omega)) rfl
    (RdInv w f a0 ws N) (fun c _ A => RdBad w f a0 ws c A)
    (fun pre A B row h hg hr => h.step hg fun r e => by have := (hr r e).1; omega)
    (fun c pre A B row h hg hr => h.step hg fun r e => by have := (hr r e).1; omega)
    (fun pre A B h hg => h.step hg fun r e => by cases e; omega)
    hinv
    ?act ?assign ?body ?done ?stop
  case assign =>
    intro l x A K hK
    gi_wp2
    exact hK
  case body =>
    rintro l pre x A hpre ⟨⟨a, ad, c, h1, h2, h3, h4, h5, h6, h7⟩, hres, hok, hrow, hold, htop⟩
    obtain ⟨hk, rfl, hlit⟩ := next_part HF.out hpre
    obtain ⟨fd, hfd⟩ : ∃ fd, fd = f.parts[pre.length] := ⟨_, rfl⟩
    rw [List.drop_eq_getElem_cons hk, ← hfd] at h3
    rw [← hfd] at hlit ⊢
    obtain ⟨k, hkk⟩ : ∃ k, k = pre.length := ⟨_, rfl⟩
    have hlen : ∀ y : ByteArray, (pre ++ [y]).length = k + 1 := fun y => by rw [List.length_append, hkk]; rfl
    rw [← hkk] at h1 h2 h3 h5 h6 h7 hk
    have HLEN := Lib.hid hlen
    clear hlen hkk
    have hLA : Lay A := HL.out.below hold (Nat.le_refl _)
    have c5 := h5.cell
    have f5 := h5.frozen
    by_cases hend : k = ws.length
    · have hz : ws.length - k = 0 := by omega
      have hbad : readGo a0 f.parts ws = none := by rw [h3, hend, List.drop_length]; rfl
      rw [hz] at c5
      obtain ⟨HK, HBAD⟩ := rd_bad (f := f) (w := w) (a0 := a0) (ws := ws) hbad hres hok hold
      have HKK := Lib.hid HK
      have HBB := Lib.hid HBAD
      have r0 := art_cell hres 0
      have fr0 := art_free hres 0
      simp only [Art.cells, Art.none] at r0
      have r1 := art_cell hres 1
      have fr1 := art_free hres 1
      simp only [Art.cells, Art.none] at r1
      have r2 := art_cell hres 2
      have fr2 := art_free hres 2
      simp only [Art.cells, Art.none] at r2
      have r3 := art_cell hres 3
      have fr3 := art_free hres 3
      simp only [Art.cells, Art.none] at r3
      have r4 := art_cell hres 4
      have fr4 := art_free hres 4
      simp only [Art.cells, Art.none] at r4
      have r5 := art_cell hres 5
      have fr5 := art_free hres 5
      simp only [Art.cells, Art.none] at r5
      have r6 := art_cell hres 6
      have fr6 := art_free hres 6
      simp only [Art.cells, Art.none] at r6
      have r7 := art_cell hres 7
      have fr7 := art_free hres 7
      simp only [Art.cells, Art.none] at r7
      have r8 := art_cell hres 8
      have fr8 := art_free hres 8
      simp only [Art.cells, Art.none] at r8
      have r9 := art_cell hres 9
      have fr9 := art_free hres 9
      simp only [Art.cells, Art.none] at r9
      have r10 := art_cell hres 10
      have fr10 := art_free hres 10
      simp only [Art.cells, Art.none] at r10
      have ck := hok.cell
      have fk := hok.frozen
      clear HK HBAD hbad h3 hz h7 hend hres hok h5 h4 hrow
      gi_wp2
      refine ⟨trivial, ?_⟩
      gi_wp2
      exact ⟨HKK.out, HBB.out⟩
    · have hlt : k < ws.length := by omega
      obtain rfl := h7 hlt
      obtain ⟨q, hq⟩ : ∃ q, ws.length - k = q + 1 := ⟨ws.length - k - 1, by omega⟩
      have hcell : A.cell? ⟨w.heap.size + 1 + 1 + 1 + 1, k, none⟩ = some (.string ws[k]) := by rw [cell_of_row _ _ _ _ _ _ hrow]; exact cellsOf_at hlt
      rw [List.drop_eq_getElem_cons hlt, readGo_step] at h3
      have htk := take_any a fd hlit ws[k] (w.heap.size + 1 + 1 + 1) A hLA (HWZ.out _ (List.getElem_mem hlt)) h4
      obtain ⟨y, hy⟩ : ∃ y, y = ws[k] := ⟨_, rfl⟩
      rw [← hy] at hcell h3 htk
      obtain ⟨⟨a', ok⟩, hao⟩ : ∃ r, r = takeOf a fd y := ⟨_, rfl⟩
      rw [← hao] at h3 htk
      rw [hq] at c5 h6
      have HTK : ∀ n, Hid (CallsIn (Fence.wide.inRound l) n Tryz.prog 58 #[.pointer (some ⟨w.heap.size + 1 + 1 + 1, 0, none⟩), .string fd.text, .string y] A (TakePost A (w.heap.size + 1 + 1 + 1) (a', ok))) := fun n => Lib.hid (CallsIn.inRound l (callsIn_wide.2 htk))
      have hqz : (((q : Int) + 1) == 0) = false := by rw [beq_eq_false_iff_ne]; omega
      have hq1 : (1 : Int) ≤ (q : Int) + 1 := by omega
      have hqc : (q : Int) + 1 ≤ (c : Int) := by omega
      have hq0 : (0 : Int) < (q : Int) + 1 := by omega
      have hq2 : 0 < q + 1 := by omega
      have H3 := Lib.hid h3
      have H4 := Lib.hid h4
      have H5 := Lib.hid h5
      have HRES := Lib.hid hres
      have HOK := Lib.hid hok
      have HOLD := Lib.hid hold
      have HROW := Lib.hid hrow
      have HQ := Lib.hid hq
      generalize fd.text = p at *
      clear h3 htk hao hy hq h7 hLA hlit hfd h4 hrow
      cases ok with
      | false =>
        have hbad : Hid (readGo a0 f.parts ws = none) := Lib.hid (H3.out.trans rfl)
        gi_wp2_with (refine ⟨trivial, rfl, ?_⟩; gi_at_call 58; refine ((HTK _).out).mono ?_; rintro e A1 ⟨rfl, ha1, hg1⟩; have hres1 : ArtAt A1 (w.heap.size + 1) Art.none := (hg1.block _ HRES.out.lt (fun e => by injection e; omega)).trans HRES.out; have hok1 : Boxed A1 (w.heap.size + 1 + 1) 4 (.bool false) := HOK.out.kept hg1 (fun e => by injection e; omega); have hold1 : Below w.heap.size w A1 := HOLD.out.grown hg1 HOLD.out.size (fun j e => by cases e; omega); have HG1 := Lib.hid hg1; have r0 := art_cell hres1 0; have fr0 := art_free hres1 0; simp only [Art.cells, Art.none] at r0; have r1 := art_cell hres1 1; have fr1 := art_free hres1 1; simp only [Art.cells, Art.none] at r1; have r2 := art_cell hres1 2; have fr2 := art_free hres1 2; simp only [Art.cells, Art.none] at r2; have r3 := art_cell hres1 3; have fr3 := art_free hres1 3; simp only [Art.cells, Art.none] at r3; have r4 := art_cell hres1 4; have fr4 := art_free hres1 4; simp only [Art.cells, Art.none] at r4; have r5 := art_cell hres1 5; have fr5 := art_free hres1 5; simp only [Art.cells, Art.none] at r5; have r6 := art_cell hres1 6; have fr6 := art_free hres1 6; simp only [Art.cells, Art.none] at r6; have r7 := art_cell hres1 7; have fr7 := art_free hres1 7; simp only [Art.cells, Art.none] at r7; have r8 := art_cell hres1 8; have fr8 := art_free hres1 8; simp only [Art.cells, Art.none] at r8; have r9 := art_cell hres1 9; have fr9 := art_free hres1 9; simp only [Art.cells, Art.none] at r9; have r10 := art_cell hres1 10; have fr10 := art_free hres1 10; simp only [Art.cells, Art.none] at r10; have ck := hok1.cell; have fk := hok1.frozen; have HR1 := Lib.hid hres1; have HO1 := Lib.hid hok1; have HD1 := Lib.hid hold1; clear ha1 hg1 hres1 hok1 hold1)
        obtain ⟨HK, HBAD⟩ := rd_bad (f := f) (w := w) (a0 := a0) (ws := ws) hbad.out HR1.out HO1.out HD1.out
        exact ⟨(KeepsOthers.of_grownBy HG1.out fun j o e hj => by cases e; have h4' := H4.out; unfold ArtAt at h4'; rw [h4'] at hj; cases hj; rfl).trans HK, HBAD⟩
      | true =>
        have hgo : Hid (readGo a0 f.parts ws = readGo a' (f.parts.drop (k + 1)) (ws.drop (k + 1))) := Lib.hid (H3.out.trans rfl)
        by_cases hc1 : c = 1
        · subst hc1
          gi_wp2_with (refine ⟨trivial, rfl, ?_⟩; gi_at_call 58; refine ((HTK _).out).mono ?_; rintro e A1 ⟨rfl, ha1, hg1⟩; have hb5 := Boxed.kept H5.out hg1 (fun e => by injection e; omega); have d5 := hb5.cell; have e5 := hb5.frozen; rw [HQ.out] at d5; have HG1 := Lib.hid hg1; have HA1 := Lib.hid ha1; clear ha1 hg1 hb5)
          exact ⟨(KeepsOthers.of_grownBy HG1.out fun j o e hj => by cases e; have h4' := H4.out; unfold ArtAt at h4'; rw [h4'] at hj; cases hj; rfl).trans (KeepsOthers.setCell _ _ _), rd_keeps HG1.out HOLD.out htop, rd_next HLEN.out HOLD.out HRES.out HOK.out HROW.out htop h1 hlt hk hgo.out HA1.out HG1.out H5.out (by have := HQ.out; omega) (by have := HQ.out; omega) (fun h => by have := HQ.out; omega)⟩
        · have hc2 : ¬ 1 = c := fun e => hc1 e.symm
          have hc3 : (1 : Int) ≤ (c : Int) := by omega
          gi_wp2_with (refine ⟨trivial, rfl, ?_⟩; gi_at_call 58; refine ((HTK _).out).mono ?_; rintro e A1 ⟨rfl, ha1, hg1⟩; have hb5 := Boxed.kept H5.out hg1 (fun e => by injection e; omega); have d5 := hb5.cell; have e5 := hb5.frozen; rw [HQ.out] at d5; have HG1 := Lib.hid hg1; have HA1 := Lib.hid ha1; clear ha1 hg1 hb5)
          exact ⟨(KeepsOthers.of_grownBy HG1.out fun j o e hj => by cases e; have h4' := H4.out; unfold ArtAt at h4'; rw [h4'] at hj; cases hj; rfl).trans (KeepsOthers.setCell _ _ _), rd_keeps HG1.out HOLD.out htop, rd_next HLEN.out HOLD.out HRES.out HOK.out HROW.out htop h1 hlt hk hgo.out HA1.out HG1.out H5.out (by have := HQ.out; omega) (by omega) (fun _ => rfl)⟩
  case done =>
    rintro D A hD ⟨⟨a, ad, c, h1, h2, h3, h4, h5, h6, h7⟩, hres, hok, hrow, hold, htop⟩ hK
    have hwl : (wordsB 32 f.text).length = f.parts.length := by rw [form_words HF.out, List.length_map]
    rw [hwl, List.drop_length] at h3
    have HR := Lib.hid (h3.trans (show readGo a [] _ = some a from rfl))
    obtain ⟨kd, cd, ot, nm, yr, am, pc, nu, dy, ls, wh⟩ := a
    have s0 := art_cell h4 0
    simp only [Art.cells] at s0
    have s1 := art_cell h4 1
    simp only [Art.cells] at s1
    have s2 := art_cell h4 2
    simp only [Art.cells] at s2
    have s3 := art_cell h4 3
    simp only [Art.cells] at s3
    have s4 := art_cell h4 4
    simp only [Art.cells] at s4
    have s5 := art_cell h4 5
    simp only [Art.cells] at s5
    have s6 := art_cell h4 6
    simp only [Art.cells] at s6
    have s7 := art_cell h4 7
    simp only [Art.cells] at s7
    have s8 := art_cell h4 8
    simp only [Art.cells] at s8
    have s9 := art_cell h4 9
    simp only [Art.cells] at s9
    have s10 := art_cell h4 10
    simp only [Art.cells] at s10
    have r0 := art_cell hres 0
    have fr0 := art_free hres 0
    simp only [Art.cells, Art.none] at r0
    have r1 := art_cell hres 1
    have fr1 := art_free hres 1
    simp only [Art.cells, Art.none] at r1
    have r2 := art_cell hres 2
    have fr2 := art_free hres 2
    simp only [Art.cells, Art.none] at r2
    have r3 := art_cell hres 3
    have fr3 := art_free hres 3
    simp only [Art.cells, Art.none] at r3
    have r4 := art_cell hres 4
    have fr4 := art_free hres 4
    simp only [Art.cells, Art.none] at r4
    have r5 := art_cell hres 5
    have fr5 := art_free hres 5
    simp only [Art.cells, Art.none] at r5
    have r6 := art_cell hres 6
    have fr6 := art_free hres 6
    simp only [Art.cells, Art.none] at r6
    have r7 := art_cell hres 7
    have fr7 := art_free hres 7
    simp only [Art.cells, Art.none] at r7
    have r8 := art_cell hres 8
    have fr8 := art_free hres 8
    simp only [Art.cells, Art.none] at r8
    have r9 := art_cell hres 9
    have fr9 := art_free hres 9
    simp only [Art.cells, Art.none] at r9
    have r10 := art_cell hres 10
    have fr10 := art_free hres 10
    simp only [Art.cells, Art.none] at r10
    have ck := hok.cell
    have fk := hok.frozen
    have hDw : w.heap.size + 9 ≤ D := by omega
    have hF := putArt_at hres kd cd ot nm yr am pc nu dy ls wh
    have hok2 : Boxed (putArt A (w.heap.size + 1) kd cd ot nm yr am pc nu dy ls wh) (w.heap.size + 1 + 1) 4 (.bool false) := (putArt_other kd cd ot nm yr am pc nu dy ls wh (by omega)).trans hok
    have hF2 : ArtAt ((putArt A (w.heap.size + 1) kd cd ot nm yr am pc nu dy ls wh).setCell ⟨w.heap.size + 1 + 1, 0, none⟩ (.bool true)) (w.heap.size + 1) ⟨kd, cd, ot, nm, yr, am, pc, nu, dy, ls, wh⟩ := (setCell_other _ _ (by omega)).trans hF
    have hK2 : ((putArt A (w.heap.size + 1) kd cd ot nm yr am pc nu dy ls wh).setCell ⟨w.heap.size + 1 + 1, 0, none⟩ (.bool true)).heap[D]? = some (.deferred (some [])) := by
      rw [setCell_other _ _ (by omega), putArt_other kd cd ot nm yr am pc nu dy ls wh (by omega)]
      exact hK
    have hold2 : Below w.heap.size w ((putArt A (w.heap.size + 1) kd cd ot nm yr am pc nu dy ls wh).setCell ⟨w.heap.size + 1 + 1, 0, none⟩ (.bool true)) := (putArt_below kd cd ot nm yr am pc nu dy ls wh hold (by omega)).setCell (by show w.heap.size ≤ w.heap.size + 1 + 1; omega) _
    have hok3 := hok2.set (.bool true)
    unfold putArt at hF2 hok3 hK2 hold2
    have HF2 := Lib.hid hF2
    have HOK2 := Lib.hid hok3
    have HK2 := Lib.hid hK2
    have HOLD2 := Lib.hid hold2
    clear h1 h2 h3 h4 h5 h6 h7 hres hok hrow hold hF hok2 hok3 hF2 hK2 hold2 hwl hK
    gi_wp2
    refine ⟨by simp, .inl ⟨_, _, rfl, run_takeDeferred HK2.out, ?_⟩⟩
    have hg := grownBy_putObj' ((((((((((((A.setCell ⟨w.heap.size + 1, 0, none⟩ (.int .i64 kd)).setCell ⟨w.heap.size + 1, 1, none⟩ (.string cd)).setCell ⟨w.heap.size + 1, 2, none⟩ (.string ot)).setCell ⟨w.heap.size + 1, 3, none⟩ (.string nm)).setCell ⟨w.heap.size + 1, 4, none⟩ (.int .i64 yr)).setCell ⟨w.heap.size + 1, 5, none⟩ (.int .i64 am)).setCell ⟨w.heap.size + 1, 6, none⟩ (.int .i64 pc)).setCell ⟨w.heap.size + 1, 7, none⟩ (.int .i64 nu)).setCell ⟨w.heap.size + 1, 8, none⟩ (.int .i64 dy)).setCell ⟨w.heap.size + 1, 9, none⟩ (.int .i64 ls)).setCell ⟨w.heap.size + 1, 10, none⟩ (.int .i64 wh)).setCell ⟨w.heap.size + 1 + 1, 0, none⟩ (.bool true)) D (.deferred none)
    have hfin : ArtAt (((((((((((((A.setCell ⟨w.heap.size + 1, 0, none⟩ (.int .i64 kd)).setCell ⟨w.heap.size + 1, 1, none⟩ (.string cd)).setCell ⟨w.heap.size + 1, 2, none⟩ (.string ot)).setCell ⟨w.heap.size + 1, 3, none⟩ (.string nm)).setCell ⟨w.heap.size + 1, 4, none⟩ (.int .i64 yr)).setCell ⟨w.heap.size + 1, 5, none⟩ (.int .i64 am)).setCell ⟨w.heap.size + 1, 6, none⟩ (.int .i64 pc)).setCell ⟨w.heap.size + 1, 7, none⟩ (.int .i64 nu)).setCell ⟨w.heap.size + 1, 8, none⟩ (.int .i64 dy)).setCell ⟨w.heap.size + 1, 9, none⟩ (.int .i64 ls)).setCell ⟨w.heap.size + 1, 10, none⟩ (.int .i64 wh)).setCell ⟨w.heap.size + 1 + 1, 0, none⟩ (.bool true)).putObj D (.deferred none)) (w.heap.size + 1) ⟨kd, cd, ot, nm, yr, am, pc, nu, dy, ls, wh⟩ := (World.putObj_heap_other (by omega)).trans HF2.out
    have hbf := HOK2.out.kept hg (fun e => by injection e; omega)
    have qb := hbf.cell
    have hbel := HOLD2.out.grown hg HOLD2.out.size fun j e => by cases e; omega
    generalize ((((((((((((A.setCell ⟨w.heap.size + 1, 0, none⟩ (.int .i64 kd)).setCell ⟨w.heap.size + 1, 1, none⟩ (.string cd)).setCell ⟨w.heap.size + 1, 2, none⟩ (.string ot)).setCell ⟨w.heap.size + 1, 3, none⟩ (.string nm)).setCell ⟨w.heap.size + 1, 4, none⟩ (.int .i64 yr)).setCell ⟨w.heap.size + 1, 5, none⟩ (.int .i64 am)).setCell ⟨w.heap.size + 1, 6, none⟩ (.int .i64 pc)).setCell ⟨w.heap.size + 1, 7, none⟩ (.int .i64 nu)).setCell ⟨w.heap.size + 1, 8, none⟩ (.int .i64 dy)).setCell ⟨w.heap.size + 1, 9, none⟩ (.int .i64 ls)).setCell ⟨w.heap.size + 1, 10, none⟩ (.int .i64 wh)).setCell ⟨w.heap.size + 1 + 1, 0, none⟩ (.bool true)).putObj D (.deferred none) = F at hfin qb hbel ⊢
    have q0 := art_cell hfin 0
    simp only [Art.cells] at q0
    have q1 := art_cell hfin 1
    simp only [Art.cells] at q1
    have q2 := art_cell hfin 2
    simp only [Art.cells] at q2
    have q3 := art_cell hfin 3
    simp only [Art.cells] at q3
    have q4 := art_cell hfin 4
    simp only [Art.cells] at q4
    have q5 := art_cell hfin 5
    simp only [Art.cells] at q5
    have q6 := art_cell hfin 6
    simp only [Art.cells] at q6
    have q7 := art_cell hfin 7
    simp only [Art.cells] at q7
    have q8 := art_cell hfin 8
    simp only [Art.cells] at q8
    have q9 := art_cell hfin 9
    simp only [Art.cells] at q9
    have q10 := art_cell hfin 10
    simp only [Art.cells] at q10
    refine ⟨.tuple #[.agg #[.int .i64 kd, .string cd, .string ot, .string nm, .int .i64 yr, .int .i64 am, .int .i64 pc, .int .i64 nu, .int .i64 dy, .int .i64 ls, .int .i64 wh], .bool true], by simp [results, Tryz.results39, go_sem, q0, q1, q2, q3, q4, q5, q6, q7, q8, q9, q10, qb], ?_⟩
    rw [HR.out]
    exact ⟨rfl, hbel⟩
  case stop =>
    rintro D c pre A hD hpre ⟨rfl, hbad, hres, hok, hold⟩ hK
    have HKK := Lib.hid hK
    have HBADD := Lib.hid hbad
    have hDw : w.heap.size + 9 ≤ D := by omega
    clear hbad hK
    gi_wp2
    refine ⟨by simp, .inl ⟨_, _, rfl, run_takeDeferred HKK.out, ?_⟩⟩
    have hg := grownBy_putObj' A D (.deferred none)
    have hfin : ArtAt (A.putObj D (.deferred none)) (w.heap.size + 1) Art.none := (World.putObj_heap_other (by have := hres.lt; omega)).trans hres
    have hbf := hok.kept hg (fun e => by injection e; omega)
    have qb := hbf.cell
    have hbel := hold.grown hg hold.size fun j e => by cases e; omega
    generalize A.putObj D (.deferred none) = F at hfin qb hbel ⊢
    have q0 := art_cell hfin 0
    simp only [Art.cells, Art.none] at q0
    have q1 := art_cell hfin 1
    simp only [Art.cells, Art.none] at q1
    have q2 := art_cell hfin 2
    simp only [Art.cells, Art.none] at q2
    have q3 := art_cell hfin 3
    simp only [Art.cells, Art.none] at q3
    have q4 := art_cell hfin 4
    simp only [Art.cells, Art.none] at q4
    have q5 := art_cell hfin 5
    simp only [Art.cells, Art.none] at q5
    have q6 := art_cell hfin 6
    simp only [Art.cells, Art.none] at q6
    have q7 := art_cell hfin 7
    simp only [Art.cells, Art.none] at q7
    have q8 := art_cell hfin 8
    simp only [Art.cells, Art.none] at q8
    have q9 := art_cell hfin 9
    simp only [Art.cells, Art.none] at q9
    have q10 := art_cell hfin 10
    simp only [Art.cells, Art.none] at q10
    refine ⟨.tuple #[.agg #[.int .i64 0, .string ⟨#[]⟩, .string ⟨#[]⟩, .string ⟨#[]⟩, .int .i64 0, .int .i64 0, .int .i64 0, .int .i64 0, .int .i64 0, .int .i64 0, .int .i64 0], .bool false], by simp [results, Tryz.results39, go_sem, q0, q1, q2, q3, q4, q5, q6, q7, q8, q9, q10, qb], ?_⟩
    rw [HBADD.out]
    exact ⟨rfl, hbel⟩

end Go.Proofs.YtdgckdmgplpobaaGreatDoor
