/- Texts of one claim, merged: MkInv, Bent. -/
import Derived.Test.YtdgckdmgplpobaaGreatDoorMG3
import Derived.Test.YtdgckdmgplpobaaGreatDoorMTree
/- The world of treasurymake.Article: a tape, the article so far, the result's place; how it ends. -/
set_option linter.unusedSimpArgs false
set_option linter.unusedVariables false
namespace Go.Proofs.YtdgckdmgplpobaaGreatDoor
open Go.RowKit Go.Lib Go.Proofs

theorem grownBy_cell' {w w' : World} {tb g : Nat} (h : w.grownBy w' (some tb)) (hg : g < w.heap.size) (hne : g ≠ tb) (j : Nat) : w'.cell? ⟨g, j, none⟩ = w.cell? ⟨g, j, none⟩ :=
  World.cell?_of_block (h.block g hg (fun e => hne (by injection e)))

def HeadsAt (w : World) (tb g m : Nat) (cs : List ByteArray) : Prop := ∀ W, w.grownBy W (some tb) → ∀ j, j < m → W.cell? ⟨g, j * 2, none⟩ = some (.string (cs.getD j ⟨#[]⟩))

structure MkInv (w : World) (tb b : Nat) (a : Art) (W : World) : Prop where
  tape : TapeAt W tb
  old : w.grownBy W (some tb)
  art : ArtAt W b a
  res : ArtAt W w.heap.size Art.none
  far : tb < w.heap.size ∧ w.heap.size < b

theorem MkInv.turn {w : World} {tb b : Nat} {a : Art} {A B : World} (h : MkInv w tb b a A) (ht : TapeAt B tb) (hg : A.grownBy B (some tb)) : MkInv w tb b a B := by
  have hf := h.far
  exact ⟨ht, grownBy_trans h.old hg, (hg.block b h.art.lt (fun e => by injection e; omega)).trans h.art, (hg.block _ h.res.lt (fun e => by injection e; omega)).trans h.res, hf⟩
theorem MkInv.below {w : World} {tb b : Nat} {a : Art} {A B : World} (h : MkInv w tb b a A) (hb : Below A.heap.size A B) : MkInv w tb b a B :=
  ⟨h.tape.below hb, grownBy_trans h.old (grownBy_below hb), h.art.below hb, h.res.below hb, h.far⟩
theorem MkInv.drew {w : World} {tb b : Nat} {a : Art} {A : World} (h : MkInv w tb b a A) : MkInv w tb b a A.drew := h.below ((Below.refl _ _).drew)

theorem grownBy_set {w W : World} {tb b : Nat} (h : w.grownBy W (some tb)) (hb : w.heap.size ≤ b) (j : Nat) (v : Value) : w.grownBy (W.setCell ⟨b, j, none⟩ v) (some tb) :=
  ⟨h.os, h.tape, h.output, by simpa [World.setCell] using h.size, fun k hk hne => (Below.heap_setCell W _ _ k (by show k ≠ b; omega)).trans (h.block k hk hne)⟩

theorem MkInv.put {w : World} {tb b : Nat} {a a' : Art} {A : World} (h : MkInv w tb b a A) (j : Nat) (v : Value) (he : a.cells.setIfInBounds j v = a'.cells) : MkInv w tb b a' (A.setCell ⟨b, j, none⟩ v) := by
  have hf := h.far
  refine ⟨h.tape.keep fun k hk => setCell_other _ _ (by omega), grownBy_set h.old (by omega) j v, ?_, (setCell_other _ _ (by omega)).trans h.res, hf⟩
  have := art_set h.art j v
  rw [he] at this
  exact this

theorem MkInv.result {w : World} {tb b : Nat} {a : Art} {A : World} (h : MkInv w tb b a A) (kd : Int) (cd ot nm : ByteArray) (yr am pc nu dy ls wh : Int) : ArtAt (putArt A w.heap.size kd cd ot nm yr am pc nu dy ls wh) w.heap.size ⟨kd, cd, ot, nm, yr, am, pc, nu, dy, ls, wh⟩ ∧ TapeAt (putArt A w.heap.size kd cd ot nm yr am pc nu dy ls wh) tb ∧ w.grownBy (putArt A w.heap.size kd cd ot nm yr am pc nu dy ls wh) (some tb) := by
  have hf := h.far
  refine ⟨putArt_at h.res kd cd ot nm yr am pc nu dy ls wh, h.tape.keep fun k hk => putArt_other kd cd ot nm yr am pc nu dy ls wh (by omega), ?_⟩
  unfold putArt
  have h0 := h.old
  exact grownBy_set (grownBy_set (grownBy_set (grownBy_set (grownBy_set (grownBy_set (grownBy_set (grownBy_set (grownBy_set (grownBy_set (grownBy_set h0 (by omega) _ _) (by omega) _ _) (by omega) _ _) (by omega) _ _) (by omega) _ _) (by omega) _ _) (by omega) _ _) (by omega) _ _) (by omega) _ _) (by omega) _ _) (by omega) _ _

def MkPost (tb : Nat) (w : World) (e : Ending) (w' : World) : Prop := ∃ a : Art, e = .returned (.agg a.cells) ∧ textA a ≠ ⟨#[]⟩ ∧ TapeAt w' tb ∧ w.grownBy w' (some tb)

def MkNPost (w : World) (tb b m : Nat) (a : Art) (e : Ending) (w' : World) : Prop := ∃ r : Nat, e = .returned (.int .i64 (r : Int)) ∧ r < m ∧ (0 : Int) ≤ (r : Int) ∧ (r : Int) < m ∧ MkInv w tb b a w'

theorem N_heads {w W : World} {tb b m : Nat} {a : Art} (h : MkInv w tb b a W) (hm : 1 ≤ m ∧ m ≤ 1000) : Calls Tryz.prog 22 #[.pointer (some ⟨tb, 0, none⟩), .int .i64 (m : Int)] W (MkNPost w tb b m a) := by
  refine (N_any tb m W h.tape (by omega) (by omega)).mono fun e w' ⟨r, he, r0, r1, ht, hg⟩ => ?_
  exact ⟨r.toNat, by rw [he]; congr 1; congr 1; omega, by omega, by omega, by omega, h.turn ht hg⟩

theorem mkInv_new {w w1 : World} {tb : Nat} (kd : Int) (ht : TapeAt w1 tb) (hg : (w.alloc (.cells Art.none.cells 24)).grownBy w1 (some tb)) (hlt : tb < w.heap.size) : MkInv w tb w1.heap.size { Art.none with kind := kd } (w1.alloc (.cells { Art.none with kind := kd }.cells 24)) := by
  have hs := hg.size
  rw [World.size_alloc] at hs
  refine ⟨ht.below (below_alloc _ _), grownBy_trans (grownBy_trans (grownBy_below (below_alloc w _)) hg) (grownBy_below (below_alloc _ _)), heap_alloc_new w1 _, ?_, by omega, by omega⟩
  refine (Below.heap_alloc w1 _ _ (by omega)).trans ((hg.block _ (by simp) (fun e => by injection e; omega)).trans ?_)
  exact heap_alloc_new w _

theorem tape_ways {w : World} {tb b : Nat} {a : Art} {A : World} (h : MkInv w tb b a A) : TapeAt A tb ∧ TapeAt A.drew tb ∧ (∀ o, TapeAt (A.alloc o) tb) ∧ (∀ o, TapeAt (A.alloc o).drew tb) :=
  ⟨h.tape, h.drew.tape, fun o => (h.below (below_alloc A o)).tape, fun o => (h.below (below_alloc A o)).drew.tape⟩

def namesL : Array Value := #[.string ⟨#[120]⟩, .string ⟨#[97, 32, 98]⟩, .string ⟨#[99, 111, 117, 114, 116, 32, 111, 102, 32, 97, 117, 100, 105, 116]⟩]
theorem heading_names (r : Int) (h0 : 0 ≤ r) (h1 : r < 3) : ∃ x, nameB x = true ∧ namesL[r.toNat]? = some (.string x) := by
  rcases (by omega : r = 0 ∨ r = 1 ∨ r = 2) with rfl | rfl | rfl
  · exact ⟨⟨#[120]⟩, by decide, rfl⟩
  · exact ⟨⟨#[97, 32, 98]⟩, by decide, rfl⟩
  · exact ⟨⟨#[99, 111, 117, 114, 116, 32, 111, 102, 32, 97, 117, 100, 105, 116]⟩, by decide, rfl⟩
theorem names_after (w : World) (r : Nat) (x : ByteArray) (h : namesL[(r : Int).toNat]? = some (.string x)) : (w.alloc (.cells #[.string ⟨#[120]⟩, .string ⟨#[97, 32, 98]⟩, .string ⟨#[99, 111, 117, 114, 116, 32, 111, 102, 32, 97, 117, 100, 105, 116]⟩] 9)).cell? ⟨w.heap.size, r, none⟩ = some (.string x) := by
  rw [cell_of_row _ _ _ _ _ _ (heap_alloc_new w _)]; exact h
theorem names_after2 (w : World) (b j : Nat) (v : Value) (r : Nat) (x : ByteArray) (h : namesL[(r : Int).toNat]? = some (.string x)) : ((w.setCell ⟨b, j, none⟩ v).alloc (.cells #[.string ⟨#[120]⟩, .string ⟨#[97, 32, 98]⟩, .string ⟨#[99, 111, 117, 114, 116, 32, 111, 102, 32, 97, 117, 100, 105, 116]⟩] 9)).cell? ⟨w.heap.size, r, none⟩ = some (.string x) := by
  have := names_after (w.setCell ⟨b, j, none⟩ v) r x h
  rwa [show (w.setCell ⟨b, j, none⟩ v).heap.size = w.heap.size by simp [World.setCell]] at this
theorem names_after3 (w : World) (b j : Nat) (v : Value) (r : Nat) (x : ByteArray) (h : namesL[(r : Int).toNat]? = some (.string x)) (hb : b < w.heap.size) : ((w.alloc (.cells #[.string ⟨#[120]⟩, .string ⟨#[97, 32, 98]⟩, .string ⟨#[99, 111, 117, 114, 116, 32, 111, 102, 32, 97, 117, 100, 105, 116]⟩] 9)).setCell ⟨b, j, none⟩ v).cell? ⟨w.heap.size, r, none⟩ = some (.string x) := by
  rw [World.cell?_of_block (setCell_other _ v (by show w.heap.size ≠ b; omega))]
  exact names_after w r x h
theorem names_before (w w0 w' : World) (tb r : Nat) (x : ByteArray) (h : namesL[(r : Int).toNat]? = some (.string x)) (he : w0.heap = (w.alloc (.cells #[.string ⟨#[120]⟩, .string ⟨#[97, 32, 98]⟩, .string ⟨#[99, 111, 117, 114, 116, 32, 111, 102, 32, 97, 117, 100, 105, 116]⟩] 9)).heap) (hg : w0.grownBy w' (some tb)) (ht : tb < w.heap.size) : w'.cell? ⟨w.heap.size, r, none⟩ = some (.string x) := by
  have hs : w.heap.size < w0.heap.size := by rw [he]; simp
  rw [World.cell?_of_block (hg.block w.heap.size hs (fun e => by injection e; omega))]
  have h0 := names_after w r x h
  rwa [← World.cell?_of_block (w := w.alloc _) (w' := w0) (by rw [he])] at h0
theorem names_before2 (w w0 w' : World) (tb b j : Nat) (v : Value) (r : Nat) (x : ByteArray) (h : namesL[(r : Int).toNat]? = some (.string x)) (he : w0.heap = (w.alloc (.cells #[.string ⟨#[120]⟩, .string ⟨#[97, 32, 98]⟩, .string ⟨#[99, 111, 117, 114, 116, 32, 111, 102, 32, 97, 117, 100, 105, 116]⟩] 9)).heap) (hg : w0.grownBy w' (some tb)) (ht : tb < w.heap.size) (hb : b < w.heap.size) : (w'.setCell ⟨b, j, none⟩ v).cell? ⟨w.heap.size, r, none⟩ = some (.string x) := by
  rw [World.cell?_of_block (setCell_other _ v (by show w.heap.size ≠ b; omega))]
  exact names_before w w0 w' tb r x h he hg ht

set_option maxRecDepth 100000 in
set_option maxHeartbeats 1000000 in
theorem mk_end {w : World} {tb b : Nat} (kd : Int) (cd ot nm : ByteArray) (yr am pc nu dy ls wh : Int) {A : World} (h : MkInv w tb b ⟨kd, cd, ot, nm, yr, am, pc, nu, dy, ls, wh⟩ A) (hp : textA ⟨kd, cd, ot, nm, yr, am, pc, nu, dy, ls, wh⟩ ≠ ⟨#[]⟩) {fr : Act} (hfr : fr.tmps[8]? = some (.pointer (some ⟨w.heap.size, 0, none⟩))) (hdf : fr.defers = []) :
    bodyPost Tryz.prog Tryz.f8 (MkPost tb w) Exit.ret fr (((((((((((A.setCell ⟨w.heap.size, 0, none⟩ (.int .i64 kd)).setCell ⟨w.heap.size, 1, none⟩ (.string cd)).setCell ⟨w.heap.size, 2, none⟩ (.string ot)).setCell ⟨w.heap.size, 3, none⟩ (.string nm)).setCell ⟨w.heap.size, 4, none⟩ (.int .i64 yr)).setCell ⟨w.heap.size, 5, none⟩ (.int .i64 am)).setCell ⟨w.heap.size, 6, none⟩ (.int .i64 pc)).setCell ⟨w.heap.size, 7, none⟩ (.int .i64 nu)).setCell ⟨w.heap.size, 8, none⟩ (.int .i64 dy)).setCell ⟨w.heap.size, 9, none⟩ (.int .i64 ls)).setCell ⟨w.heap.size, 10, none⟩ (.int .i64 wh)) := by
  obtain ⟨hF, ht, hg⟩ := h.result kd cd ot nm yr am pc nu dy ls wh
  show bodyPost Tryz.prog Tryz.f8 (MkPost tb w) Exit.ret fr (putArt A w.heap.size kd cd ot nm yr am pc nu dy ls wh)
  generalize putArt A w.heap.size kd cd ot nm yr am pc nu dy ls wh = F at hF ht hg ⊢
  have q0 := art_cell hF 0
  have q1 := art_cell hF 1
  have q2 := art_cell hF 2
  have q3 := art_cell hF 3
  have q4 := art_cell hF 4
  have q5 := art_cell hF 5
  have q6 := art_cell hF 6
  have q7 := art_cell hF 7
  have q8 := art_cell hF 8
  have q9 := art_cell hF 9
  have q10 := art_cell hF 10
  simp only [Art.cells] at q0 q1 q2 q3 q4 q5 q6 q7 q8 q9 q10
  refine bodyPost_ret (v := .agg #[.int .i64 kd, .string cd, .string ot, .string nm, .int .i64 yr, .int .i64 am, .int .i64 pc, .int .i64 nu, .int .i64 dy, .int .i64 ls, .int .i64 wh]) (by simp [results, Tryz.results8, go_sem, hfr, q0, q1, q2, q3, q4, q5, q6, q7, q8, q9, q10]) hdf ⟨⟨kd, cd, ot, nm, yr, am, pc, nu, dy, ls, wh⟩, rfl, hp, ht, hg⟩

end Go.Proofs.YtdgckdmgplpobaaGreatDoor

/- Contracts of treasurymake's BadCode and SmallArticle: a text of at most 12 bytes, only the tape's place has turned; whether the texts of an article are small. -/
namespace Go.Proofs.YtdgckdmgplpobaaGreatDoor
open Go.RowKit Go.Lib Go.Proofs

def badL : List ByteArray := [⟨#[]⟩, ⟨#[48]⟩, ⟨#[48, 49]⟩, ⟨#[49, 46]⟩, ⟨#[46, 49]⟩, ⟨#[49, 46, 46, 50]⟩, ⟨#[49, 48, 48]⟩, ⟨#[49, 46, 50, 46, 51, 46, 52, 46, 53]⟩, ⟨#[120]⟩, ⟨#[49, 32]⟩, ⟨#[57, 57, 46, 57, 57, 46, 57, 57, 46, 57, 57]⟩, ⟨#[52]⟩]
theorem bad_small : (badL.all fun x => decide (x.size ≤ 12)) = true := by decide

def BadPost (tb : Nat) (w : World) (e : Ending) (w' : World) : Prop := ∃ x : ByteArray, e = .returned (.string x) ∧ x.size ≤ 12 ∧ TapeAt w' tb ∧ w.grownBy w' (some tb)

set_option maxHeartbeats 1000000 in
theorem BadCode_any (tb : Nat) (w : World) (ht : TapeAt w tb) : Calls Tryz.prog 28 #[.pointer (some ⟨tb, 0, none⟩)] w (BadPost tb w) := by
  have hlt := ht.lt
  have HN := Lib.hid (N_any tb 12 (w.alloc (.cells (cellsS badL).toArray 9)) (ht.below (below_alloc _ _)) (by omega) (by omega))
  have hrow : ∀ W, (w.alloc (.cells (cellsS badL).toArray 9)).grownBy W (some tb) → ∀ r : Nat, r < 12 → ∃ x, W.cell? ⟨w.heap.size, r, none⟩ = some (.string x) ∧ x.size ≤ 12 := fun W hW r hr => by
    have hl : r < badL.length := hr
    refine ⟨badL[r], ?_, by simpa using List.all_eq_true.1 bad_small _ (List.getElem_mem hl)⟩
    rw [grownBy_cell' hW (by simp) (by omega), cell_of_row _ _ _ _ _ _ (heap_alloc_new w _)]
    simp [cellsS]
  have HR := Lib.hid hrow
  clear ht hrow
  go_enter Tryz.func28, Tryz.ntmps28
  go_wp2_with fail
  refine (HN.out).mono ?_
  rintro e w1 ⟨r, rfl, r0, r1, t1, g1⟩
  obtain ⟨n, rfl⟩ : ∃ n : Nat, r = n := ⟨r.toNat, by omega⟩
  obtain ⟨x, hx, hz⟩ := HR.out w1 g1 n (by omega)
  have G := Lib.hid (grownBy_trans (grownBy_below (row := some tb) (below_alloc w _)) g1)
  have T := Lib.hid t1
  clear t1 g1 HR HN
  go_wp2_with fail
  go_ret
  exact ⟨x, rfl, hz, T.out, G.out⟩

def smallB (a : Art) : Bool := decide (a.code.size ≤ 60) && (decide (a.other.size ≤ 60) && decide (a.name.size ≤ 100))

set_option maxHeartbeats 1000000 in
theorem SmallArticle_any (kd : Int) (cd ot nm : ByteArray) (yr am pc nu dy ls wh : Int) (w : World) :
    Calls Tryz.prog 4 #[.agg #[.int .i64 kd, .string cd, .string ot, .string nm, .int .i64 yr, .int .i64 am, .int .i64 pc, .int .i64 nu, .int .i64 dy, .int .i64 ls, .int .i64 wh]] w fun e w' => e = .returned (.bool (smallB ⟨kd, cd, ot, nm, yr, am, pc, nu, dy, ls, wh⟩)) ∧ Below w.heap.size w w' := by
  obtain ⟨R, hR⟩ : ∃ R, R = smallB ⟨kd, cd, ot, nm, yr, am, pc, nu, dy, ls, wh⟩ := ⟨_, rfl⟩
  rw [← hR]
  unfold smallB at hR
  by_cases h1 : cd.size ≤ 60
  · have h1' : (cd.size : Int) ≤ 60 := by omega
    by_cases h2 : ot.size ≤ 60
    · have h2' : (ot.size : Int) ≤ 60 := by omega
      by_cases h3 : nm.size ≤ 100
      · have h3' : (nm.size : Int) ≤ 100 := by omega
        have hr : R = true := by rw [hR]; simp [h1, h2, h3]
        subst hr
        clear hR
        go_enter Tryz.func4, Tryz.ntmps4
        go_wp2
        go_ret
        exact ⟨by first | rfl | (simp; omega), below_alloc _ _⟩
      · have h3' : ¬ (nm.size : Int) ≤ 100 := by omega
        have hr : R = false := by rw [hR]; simp [h3]
        subst hr
        clear hR
        go_enter Tryz.func4, Tryz.ntmps4
        go_wp2
        go_ret
        exact ⟨by first | rfl | (simp; omega), below_alloc _ _⟩
    · have h2' : ¬ (ot.size : Int) ≤ 60 := by omega
      have hr : R = false := by rw [hR]; simp [h2]
      subst hr
      clear hR
      go_enter Tryz.func4, Tryz.ntmps4
      go_wp2
      go_ret
      exact ⟨by first | rfl | (simp; omega), below_alloc _ _⟩
  · have h1' : ¬ (cd.size : Int) ≤ 60 := by omega
    have hr : R = false := by rw [hR]; simp [h1]
    subst hr
    clear hR
    go_enter Tryz.func4, Tryz.ntmps4
    go_wp2
    go_ret
    exact ⟨by first | rfl | (simp; omega), below_alloc _ _⟩

end Go.Proofs.YtdgckdmgplpobaaGreatDoor
