/- The contract of treasurymake's BentArticle: an article with one thing changed, still small; only the tape's place has turned. -/
import Derived.Test.YtdgckdmgplpobaaGreatDoorMG4
import Derived.Test.YtdgckdmgplpobaaGreatDoorMG3
set_option linter.unusedSimpArgs false
set_option linter.unusedVariables false
namespace Go.Proofs.YtdgckdmgplpobaaGreatDoor
open Go.RowKit Go.Lib Go.Proofs

structure SmA (a : Art) : Prop where
  bd : ArtBd a
  c : a.code.size ≤ 60
  o : a.other.size ≤ 60
  n : a.name.size ≤ 100
theorem SmA.fit {a : Art} (h : SmA a) : ArtFit a := art_fit a h.bd (by have := h.c; omega) (by have := h.o; omega) (by have := h.n; omega)

structure BtInv (w : World) (tb : Nat) (a : Art) (W : World) : Prop where
  tape : TapeAt W tb
  old : w.grownBy W (some tb)
  art : ArtAt W w.heap.size a
  res : ArtAt W (w.heap.size + 1) Art.none
  far : tb < w.heap.size
theorem BtInv.turn {w : World} {tb : Nat} {a : Art} {A B : World} (h : BtInv w tb a A) (ht : TapeAt B tb) (hg : A.grownBy B (some tb)) : BtInv w tb a B := by
  have hf := h.far
  exact ⟨ht, grownBy_trans h.old hg, (hg.block _ h.art.lt (fun e => by injection e; omega)).trans h.art, (hg.block _ h.res.lt (fun e => by injection e; omega)).trans h.res, hf⟩
theorem BtInv.below {w : World} {tb : Nat} {a : Art} {A B : World} (h : BtInv w tb a A) (hb : Below A.heap.size A B) : BtInv w tb a B :=
  ⟨h.tape.below hb, grownBy_trans h.old (grownBy_below hb), h.art.below hb, h.res.below hb, h.far⟩
theorem BtInv.put {w : World} {tb : Nat} {a a' : Art} {A : World} (h : BtInv w tb a A) (j : Nat) (v : Value) (he : a.cells.setIfInBounds j v = a'.cells) : BtInv w tb a' (A.setCell ⟨w.heap.size, j, none⟩ v) := by
  have hf := h.far
  refine ⟨h.tape.keep fun k hk => setCell_other _ _ (by omega), grownBy_set h.old (Nat.le_refl _) j v, ?_, (setCell_other _ _ (by omega)).trans h.res, hf⟩
  have := art_set h.art j v
  rw [he] at this
  exact this
theorem BtInv.new {w : World} {tb : Nat} (a : Art) (ht : TapeAt w tb) : BtInv w tb a ((w.alloc (.cells a.cells 24)).alloc (.cells Art.none.cells 24)) := by
  have e1 : (w.alloc (.cells a.cells 24)).heap.size = w.heap.size + 1 := by simp
  have hb : Below w.heap.size w ((w.alloc (.cells a.cells 24)).alloc (.cells Art.none.cells 24)) := ((Below.refl _ _).alloc (Nat.le_refl _) _).alloc (by simp) _
  refine ⟨ht.below hb, grownBy_below hb, (Below.heap_alloc _ _ _ (by simp)).trans (heap_alloc_new w _), ?_, ht.lt⟩
  have := heap_alloc_new (w.alloc (.cells a.cells 24)) (.cells Art.none.cells 24)
  rwa [e1] at this

def BtPost (tb : Nat) (w : World) (e : Ending) (w' : World) : Prop := ∃ a : Art, e = .returned (.agg a.cells) ∧ SmA a ∧ TapeAt w' tb ∧ w.grownBy w' (some tb)

set_option maxRecDepth 100000 in
set_option maxHeartbeats 1000000 in
theorem bt_end {w : World} {tb : Nat} {a : Art} (kd : Int) (cd ot nm : ByteArray) (yr am pc nu dy ls wh : Int) {A : World} (h : BtInv w tb a A) (hp : SmA ⟨kd, cd, ot, nm, yr, am, pc, nu, dy, ls, wh⟩) {fr : Act} (hfr : fr.tmps[4]? = some (.pointer (some ⟨w.heap.size + 1, 0, none⟩))) (hdf : fr.defers = []) :
    bodyPost Tryz.prog Tryz.f9 (BtPost tb w) Exit.ret fr (((((((((((A.setCell ⟨w.heap.size + 1, 0, none⟩ (.int .i64 kd)).setCell ⟨w.heap.size + 1, 1, none⟩ (.string cd)).setCell ⟨w.heap.size + 1, 2, none⟩ (.string ot)).setCell ⟨w.heap.size + 1, 3, none⟩ (.string nm)).setCell ⟨w.heap.size + 1, 4, none⟩ (.int .i64 yr)).setCell ⟨w.heap.size + 1, 5, none⟩ (.int .i64 am)).setCell ⟨w.heap.size + 1, 6, none⟩ (.int .i64 pc)).setCell ⟨w.heap.size + 1, 7, none⟩ (.int .i64 nu)).setCell ⟨w.heap.size + 1, 8, none⟩ (.int .i64 dy)).setCell ⟨w.heap.size + 1, 9, none⟩ (.int .i64 ls)).setCell ⟨w.heap.size + 1, 10, none⟩ (.int .i64 wh)) := by
  have hf := h.far
  have hF := putArt_at h.res kd cd ot nm yr am pc nu dy ls wh
  have ht : TapeAt (putArt A (w.heap.size + 1) kd cd ot nm yr am pc nu dy ls wh) tb := h.tape.keep fun k hk => putArt_other kd cd ot nm yr am pc nu dy ls wh (by omega)
  have hg : w.grownBy (putArt A (w.heap.size + 1) kd cd ot nm yr am pc nu dy ls wh) (some tb) := by
    unfold putArt
    have h0 := h.old
    exact grownBy_set (grownBy_set (grownBy_set (grownBy_set (grownBy_set (grownBy_set (grownBy_set (grownBy_set (grownBy_set (grownBy_set (grownBy_set h0 (by omega) _ _) (by omega) _ _) (by omega) _ _) (by omega) _ _) (by omega) _ _) (by omega) _ _) (by omega) _ _) (by omega) _ _) (by omega) _ _) (by omega) _ _) (by omega) _ _
  show bodyPost Tryz.prog Tryz.f9 (BtPost tb w) Exit.ret fr (putArt A (w.heap.size + 1) kd cd ot nm yr am pc nu dy ls wh)
  generalize putArt A (w.heap.size + 1) kd cd ot nm yr am pc nu dy ls wh = F at hF ht hg ⊢
  have q0 := art_cell hF 0
  have q1 := art_cell hF 1
  have q2 := art_cell hF 2
  have q3 := art_cell hF 3
  have q4 := art_cell hF 4
  have q5 := art_cell hF 5
  have q6 := art_cell hF 6
  have q7 := art_cell hF 7
  have q8 := art_cell hF 8
  have q9 := art_cell hF 9
  have q10 := art_cell hF 10
  simp only [Art.cells] at q0 q1 q2 q3 q4 q5 q6 q7 q8 q9 q10
  refine bodyPost_ret (v := .agg #[.int .i64 kd, .string cd, .string ot, .string nm, .int .i64 yr, .int .i64 am, .int .i64 pc, .int .i64 nu, .int .i64 dy, .int .i64 ls, .int .i64 wh]) (by simp [results, Tryz.results9, go_sem, hfr, q0, q1, q2, q3, q4, q5, q6, q7, q8, q9, q10]) hdf ⟨⟨kd, cd, ot, nm, yr, am, pc, nu, dy, ls, wh⟩, rfl, hp, ht, hg⟩

def bentN : List ByteArray := [⟨#[]⟩, ⟨#[32, 120]⟩, ⟨#[121]⟩, ⟨#[122, 32]⟩]
theorem bentN_small : (bentN.all fun x => decide (x.size ≤ 2)) = true := by decide

set_option maxRecDepth 100000 in
set_option maxHeartbeats 8000000 in
theorem BentArticle_any (tb : Nat) (kd : Int) (cd ot nm : ByteArray) (yr am pc nu dy ls wh : Int) (w : World) (ht : TapeAt w tb) (hs : SmA ⟨kd, cd, ot, nm, yr, am, pc, nu, dy, ls, wh⟩) :
    Calls Tryz.prog 9 #[.pointer (some ⟨tb, 0, none⟩), .agg #[.int .i64 kd, .string cd, .string ot, .string nm, .int .i64 yr, .int .i64 am, .int .i64 pc, .int .i64 nu, .int .i64 dy, .int .i64 ls, .int .i64 wh]] w (BtPost tb w) := by
  have HI0 := Lib.hid (BtInv.new ⟨kd, cd, ot, nm, yr, am, pc, nu, dy, ls, wh⟩ ht)
  have HN := Lib.hid (fun (n : Int) W (h : TapeAt W tb) (h1 : 1 ≤ n) (h2 : n ≤ 4611686018427387904) => N_any tb n W h h1 h2)
  obtain ⟨⟨y0, y1, a0, a1, p0, p1, n0, n1, l0, l1⟩, zc, zo, zn⟩ := hs
  simp only at y0 y1 a0 a1 p0 p1 n0 n1 l0 l1 zc zo zn
  have HSM : Hid ((-9223372036854775808 ≤ yr ∧ yr ≤ 9223372036854775807) ∧ (-9223372036854775808 ≤ am ∧ am ≤ 9223372036854775807) ∧ (-9223372036854775808 ≤ pc ∧ pc ≤ 9223372036854775807) ∧ (-9223372036854775808 ≤ nu ∧ nu ≤ 9223372036854775807) ∧ (-9223372036854775808 ≤ ls ∧ ls ≤ 9223372036854775807) ∧ cd.size ≤ 60 ∧ ot.size ≤ 60 ∧ nm.size ≤ 100) := Lib.hid ⟨⟨y0, y1⟩, ⟨a0, a1⟩, ⟨p0, p1⟩, ⟨n0, n1⟩, ⟨l0, l1⟩, zc, zo, zn⟩
  clear ht y0 y1 a0 a1 p0 p1 n0 n1 l0 l1 zc zo zn
  simp only [Art.cells, Art.none] at HI0
  go_enter Tryz.func9, Tryz.ntmps9
  go_wp2_with fail
  refine (HN.out 10 _ HI0.out.tape (by omega) (by omega)).mono ?_
  rintro e w1 ⟨r, rfl, r0, r1, t1, g1⟩
  have HI1 := Lib.hid (HI0.out.turn t1 g1)
  clear t1 g1 HI0
  rcases (by omega : r = 0 ∨ r = 1 ∨ r = 2 ∨ r = 3 ∨ r = 4 ∨ r = 5 ∨ r = 6 ∨ r = 7 ∨ r = 8 ∨ r = 9) with rfl | rfl | rfl | rfl | rfl | rfl | rfl | rfl | rfl | rfl
  · go_wp2_with fail
    refine (Range_any tb 0 11 _ HI1.out.tape (by omega) (by omega) (by omega)).mono ?_
    rintro e w2 ⟨x, rfl, x0, x1, t2, g2⟩
    have HI2 := Lib.hid (HI1.out.turn t2 g2)
    clear t2 g2 HI1
    have a9 := HI2.out.art
    have r9 := HI2.out.res
    have u0 := art_cell a9 0
    have fu0 := art_free a9 0
    have fr0 := art_free r9 0
    have rr0 := art_cell r9 0
    have u1 := art_cell a9 1
    have fu1 := art_free a9 1
    have fr1 := art_free r9 1
    have rr1 := art_cell r9 1
    have u2 := art_cell a9 2
    have fu2 := art_free a9 2
    have fr2 := art_free r9 2
    have rr2 := art_cell r9 2
    have u3 := art_cell a9 3
    have fu3 := art_free a9 3
    have fr3 := art_free r9 3
    have rr3 := art_cell r9 3
    have u4 := art_cell a9 4
    have fu4 := art_free a9 4
    have fr4 := art_free r9 4
    have rr4 := art_cell r9 4
    have u5 := art_cell a9 5
    have fu5 := art_free a9 5
    have fr5 := art_free r9 5
    have rr5 := art_cell r9 5
    have u6 := art_cell a9 6
    have fu6 := art_free a9 6
    have fr6 := art_free r9 6
    have rr6 := art_cell r9 6
    have u7 := art_cell a9 7
    have fu7 := art_free a9 7
    have fr7 := art_free r9 7
    have rr7 := art_cell r9 7
    have u8 := art_cell a9 8
    have fu8 := art_free a9 8
    have fr8 := art_free r9 8
    have rr8 := art_cell r9 8
    have u9 := art_cell a9 9
    have fu9 := art_free a9 9
    have fr9 := art_free r9 9
    have rr9 := art_cell r9 9
    have u10 := art_cell a9 10
    have fu10 := art_free a9 10
    have fr10 := art_free r9 10
    have rr10 := art_cell r9 10
    simp only [Art.cells, Art.none] at u0 rr0 u1 rr1 u2 rr2 u3 rr3 u4 rr4 u5 rr5 u6 rr6 u7 rr7 u8 rr8 u9 rr9 u10 rr10
    clear a9 r9
    have HIE := Lib.hid (HI2.out.put (a' := ⟨x, cd, ot, nm, yr, am, pc, nu, dy, ls, wh⟩) 0 (.int .i64 x) rfl)
    go_wp2_with fail
    exact bt_end x cd ot nm yr am pc nu dy ls wh HIE.out (by have hsm := HSM.out; exact ⟨⟨by (simp only; omega), by (simp only; omega), by (simp only; omega), by (simp only; omega), by (simp only; omega), by (simp only; omega), by (simp only; omega), by (simp only; omega), by (simp only; omega), by (simp only; omega)⟩, by (simp only; omega), by (simp only; omega), by (simp only; omega)⟩) rfl rfl
  · go_wp2_with fail
    refine (BadCode_any tb _ HI1.out.tape).mono ?_
    rintro e w2 ⟨x, rfl, hx, t2, g2⟩
    have HI2 := Lib.hid (HI1.out.turn t2 g2)
    clear t2 g2 HI1
    have a9 := HI2.out.art
    have r9 := HI2.out.res
    have u0 := art_cell a9 0
    have fu0 := art_free a9 0
    have fr0 := art_free r9 0
    have rr0 := art_cell r9 0
    have u1 := art_cell a9 1
    have fu1 := art_free a9 1
    have fr1 := art_free r9 1
    have rr1 := art_cell r9 1
    have u2 := art_cell a9 2
    have fu2 := art_free a9 2
    have fr2 := art_free r9 2
    have rr2 := art_cell r9 2
    have u3 := art_cell a9 3
    have fu3 := art_free a9 3
    have fr3 := art_free r9 3
    have rr3 := art_cell r9 3
    have u4 := art_cell a9 4
    have fu4 := art_free a9 4
    have fr4 := art_free r9 4
    have rr4 := art_cell r9 4
    have u5 := art_cell a9 5
    have fu5 := art_free a9 5
    have fr5 := art_free r9 5
    have rr5 := art_cell r9 5
    have u6 := art_cell a9 6
    have fu6 := art_free a9 6
    have fr6 := art_free r9 6
    have rr6 := art_cell r9 6
    have u7 := art_cell a9 7
    have fu7 := art_free a9 7
    have fr7 := art_free r9 7
    have rr7 := art_cell r9 7
    have u8 := art_cell a9 8
    have fu8 := art_free a9 8
    have fr8 := art_free r9 8
    have rr8 := art_cell r9 8
    have u9 := art_cell a9 9
    have fu9 := art_free a9 9
    have fr9 := art_free r9 9
    have rr9 := art_cell r9 9
    have u10 := art_cell a9 10
    have fu10 := art_free a9 10
    have fr10 := art_free r9 10
    have rr10 := art_cell r9 10
    simp only [Art.cells, Art.none] at u0 rr0 u1 rr1 u2 rr2 u3 rr3 u4 rr4 u5 rr5 u6 rr6 u7 rr7 u8 rr8 u9 rr9 u10 rr10
    clear a9 r9
    have HIE := Lib.hid (HI2.out.put (a' := ⟨kd, x, ot, nm, yr, am, pc, nu, dy, ls, wh⟩) 1 (.string x) rfl)
    go_wp2_with fail
    exact bt_end kd x ot nm yr am pc nu dy ls wh HIE.out (by have hsm := HSM.out; exact ⟨⟨by (simp only; omega), by (simp only; omega), by (simp only; omega), by (simp only; omega), by (simp only; omega), by (simp only; omega), by (simp only; omega), by (simp only; omega), by (simp only; omega), by (simp only; omega)⟩, by (simp only; omega), by (simp only; omega), by (simp only; omega)⟩) rfl rfl
  · go_wp2_with fail
    refine (BadCode_any tb _ HI1.out.tape).mono ?_
    rintro e w2 ⟨x, rfl, hx, t2, g2⟩
    have HI2 := Lib.hid (HI1.out.turn t2 g2)
    clear t2 g2 HI1
    have a9 := HI2.out.art
    have r9 := HI2.out.res
    have u0 := art_cell a9 0
    have fu0 := art_free a9 0
    have fr0 := art_free r9 0
    have rr0 := art_cell r9 0
    have u1 := art_cell a9 1
    have fu1 := art_free a9 1
    have fr1 := art_free r9 1
    have rr1 := art_cell r9 1
    have u2 := art_cell a9 2
    have fu2 := art_free a9 2
    have fr2 := art_free r9 2
    have rr2 := art_cell r9 2
    have u3 := art_cell a9 3
    have fu3 := art_free a9 3
    have fr3 := art_free r9 3
    have rr3 := art_cell r9 3
    have u4 := art_cell a9 4
    have fu4 := art_free a9 4
    have fr4 := art_free r9 4
    have rr4 := art_cell r9 4
    have u5 := art_cell a9 5
    have fu5 := art_free a9 5
    have fr5 := art_free r9 5
    have rr5 := art_cell r9 5
    have u6 := art_cell a9 6
    have fu6 := art_free a9 6
    have fr6 := art_free r9 6
    have rr6 := art_cell r9 6
    have u7 := art_cell a9 7
    have fu7 := art_free a9 7
    have fr7 := art_free r9 7
    have rr7 := art_cell r9 7
    have u8 := art_cell a9 8
    have fu8 := art_free a9 8
    have fr8 := art_free r9 8
    have rr8 := art_cell r9 8
    have u9 := art_cell a9 9
    have fu9 := art_free a9 9
    have fr9 := art_free r9 9
    have rr9 := art_cell r9 9
    have u10 := art_cell a9 10
    have fu10 := art_free a9 10
    have fr10 := art_free r9 10
    have rr10 := art_cell r9 10
    simp only [Art.cells, Art.none] at u0 rr0 u1 rr1 u2 rr2 u3 rr3 u4 rr4 u5 rr5 u6 rr6 u7 rr7 u8 rr8 u9 rr9 u10 rr10
    clear a9 r9
    have HIE := Lib.hid (HI2.out.put (a' := ⟨kd, cd, x, nm, yr, am, pc, nu, dy, ls, wh⟩) 2 (.string x) rfl)
    go_wp2_with fail
    exact bt_end kd cd x nm yr am pc nu dy ls wh HIE.out (by have hsm := HSM.out; exact ⟨⟨by (simp only; omega), by (simp only; omega), by (simp only; omega), by (simp only; omega), by (simp only; omega), by (simp only; omega), by (simp only; omega), by (simp only; omega), by (simp only; omega), by (simp only; omega)⟩, by (simp only; omega), by (simp only; omega), by (simp only; omega)⟩) rfl rfl
  · go_wp2_with fail
    refine (Pick_new tb 5 [(-2), (-1), 0, 99, 100] #[.int .i64 (-2), .int .i64 (-1), .int .i64 0, .int .i64 99, .int .i64 100] 3 w1 rfl HI1.out.tape (by simp) (by simp) 5 rfl).mono ?_
    rintro e w2 ⟨x, rfl, hx, t2, g2⟩
    have hx2 : -5 ≤ x ∧ x ≤ 1000000000001 := by simp only [List.mem_cons, List.mem_nil_iff, or_false] at hx; omega
    have HI2 := Lib.hid ((HI1.out.below (below_alloc w1 _)).turn t2 g2)
    clear t2 g2 HI1 hx
    have a9 := HI2.out.art
    have r9 := HI2.out.res
    have u0 := art_cell a9 0
    have fu0 := art_free a9 0
    have fr0 := art_free r9 0
    have rr0 := art_cell r9 0
    have u1 := art_cell a9 1
    have fu1 := art_free a9 1
    have fr1 := art_free r9 1
    have rr1 := art_cell r9 1
    have u2 := art_cell a9 2
    have fu2 := art_free a9 2
    have fr2 := art_free r9 2
    have rr2 := art_cell r9 2
    have u3 := art_cell a9 3
    have fu3 := art_free a9 3
    have fr3 := art_free r9 3
    have rr3 := art_cell r9 3
    have u4 := art_cell a9 4
    have fu4 := art_free a9 4
    have fr4 := art_free r9 4
    have rr4 := art_cell r9 4
    have u5 := art_cell a9 5
    have fu5 := art_free a9 5
    have fr5 := art_free r9 5
    have rr5 := art_cell r9 5
    have u6 := art_cell a9 6
    have fu6 := art_free a9 6
    have fr6 := art_free r9 6
    have rr6 := art_cell r9 6
    have u7 := art_cell a9 7
    have fu7 := art_free a9 7
    have fr7 := art_free r9 7
    have rr7 := art_cell r9 7
    have u8 := art_cell a9 8
    have fu8 := art_free a9 8
    have fr8 := art_free r9 8
    have rr8 := art_cell r9 8
    have u9 := art_cell a9 9
    have fu9 := art_free a9 9
    have fr9 := art_free r9 9
    have rr9 := art_cell r9 9
    have u10 := art_cell a9 10
    have fu10 := art_free a9 10
    have fr10 := art_free r9 10
    have rr10 := art_cell r9 10
    simp only [Art.cells, Art.none] at u0 rr0 u1 rr1 u2 rr2 u3 rr3 u4 rr4 u5 rr5 u6 rr6 u7 rr7 u8 rr8 u9 rr9 u10 rr10
    clear a9 r9
    have HIE := Lib.hid (HI2.out.put (a' := ⟨kd, cd, ot, nm, x, am, pc, nu, dy, ls, wh⟩) 4 (.int .i64 x) rfl)
    go_wp2_with fail
    exact bt_end kd cd ot nm x am pc nu dy ls wh HIE.out (by have hsm := HSM.out; exact ⟨⟨by (simp only; omega), by (simp only; omega), by (simp only; omega), by (simp only; omega), by (simp only; omega), by (simp only; omega), by (simp only; omega), by (simp only; omega), by (simp only; omega), by (simp only; omega)⟩, by (simp only; omega), by (simp only; omega), by (simp only; omega)⟩) rfl rfl
  · go_wp2_with fail
    refine (Pick_new tb 4 [(-2), (-1), 1000000000000, 1000000000001] #[.int .i64 (-2), .int .i64 (-1), .int .i64 1000000000000, .int .i64 1000000000001] 3 w1 rfl HI1.out.tape (by simp) (by simp) 4 rfl).mono ?_
    rintro e w2 ⟨x, rfl, hx, t2, g2⟩
    have hx2 : -5 ≤ x ∧ x ≤ 1000000000001 := by simp only [List.mem_cons, List.mem_nil_iff, or_false] at hx; omega
    have HI2 := Lib.hid ((HI1.out.below (below_alloc w1 _)).turn t2 g2)
    clear t2 g2 HI1 hx
    have a9 := HI2.out.art
    have r9 := HI2.out.res
    have u0 := art_cell a9 0
    have fu0 := art_free a9 0
    have fr0 := art_free r9 0
    have rr0 := art_cell r9 0
    have u1 := art_cell a9 1
    have fu1 := art_free a9 1
    have fr1 := art_free r9 1
    have rr1 := art_cell r9 1
    have u2 := art_cell a9 2
    have fu2 := art_free a9 2
    have fr2 := art_free r9 2
    have rr2 := art_cell r9 2
    have u3 := art_cell a9 3
    have fu3 := art_free a9 3
    have fr3 := art_free r9 3
    have rr3 := art_cell r9 3
    have u4 := art_cell a9 4
    have fu4 := art_free a9 4
    have fr4 := art_free r9 4
    have rr4 := art_cell r9 4
    have u5 := art_cell a9 5
    have fu5 := art_free a9 5
    have fr5 := art_free r9 5
    have rr5 := art_cell r9 5
    have u6 := art_cell a9 6
    have fu6 := art_free a9 6
    have fr6 := art_free r9 6
    have rr6 := art_cell r9 6
    have u7 := art_cell a9 7
    have fu7 := art_free a9 7
    have fr7 := art_free r9 7
    have rr7 := art_cell r9 7
    have u8 := art_cell a9 8
    have fu8 := art_free a9 8
    have fr8 := art_free r9 8
    have rr8 := art_cell r9 8
    have u9 := art_cell a9 9
    have fu9 := art_free a9 9
    have fr9 := art_free r9 9
    have rr9 := art_cell r9 9
    have u10 := art_cell a9 10
    have fu10 := art_free a9 10
    have fr10 := art_free r9 10
    have rr10 := art_cell r9 10
    simp only [Art.cells, Art.none] at u0 rr0 u1 rr1 u2 rr2 u3 rr3 u4 rr4 u5 rr5 u6 rr6 u7 rr7 u8 rr8 u9 rr9 u10 rr10
    clear a9 r9
    have HIE := Lib.hid (HI2.out.put (a' := ⟨kd, cd, ot, nm, yr, x, pc, nu, dy, ls, wh⟩) 5 (.int .i64 x) rfl)
    go_wp2_with fail
    exact bt_end kd cd ot nm yr x pc nu dy ls wh HIE.out (by have hsm := HSM.out; exact ⟨⟨by (simp only; omega), by (simp only; omega), by (simp only; omega), by (simp only; omega), by (simp only; omega), by (simp only; omega), by (simp only; omega), by (simp only; omega), by (simp only; omega), by (simp only; omega)⟩, by (simp only; omega), by (simp only; omega), by (simp only; omega)⟩) rfl rfl
  · go_wp2_with fail
    refine (Pick_new tb 4 [(-1), 0, 100, 101] #[.int .i64 (-1), .int .i64 0, .int .i64 100, .int .i64 101] 3 w1 rfl HI1.out.tape (by simp) (by simp) 4 rfl).mono ?_
    rintro e w2 ⟨x, rfl, hx, t2, g2⟩
    have hx2 : -5 ≤ x ∧ x ≤ 1000000000001 := by simp only [List.mem_cons, List.mem_nil_iff, or_false] at hx; omega
    have HI2 := Lib.hid ((HI1.out.below (below_alloc w1 _)).turn t2 g2)
    clear t2 g2 HI1 hx
    have a9 := HI2.out.art
    have r9 := HI2.out.res
    have u0 := art_cell a9 0
    have fu0 := art_free a9 0
    have fr0 := art_free r9 0
    have rr0 := art_cell r9 0
    have u1 := art_cell a9 1
    have fu1 := art_free a9 1
    have fr1 := art_free r9 1
    have rr1 := art_cell r9 1
    have u2 := art_cell a9 2
    have fu2 := art_free a9 2
    have fr2 := art_free r9 2
    have rr2 := art_cell r9 2
    have u3 := art_cell a9 3
    have fu3 := art_free a9 3
    have fr3 := art_free r9 3
    have rr3 := art_cell r9 3
    have u4 := art_cell a9 4
    have fu4 := art_free a9 4
    have fr4 := art_free r9 4
    have rr4 := art_cell r9 4
    have u5 := art_cell a9 5
    have fu5 := art_free a9 5
    have fr5 := art_free r9 5
    have rr5 := art_cell r9 5
    have u6 := art_cell a9 6
    have fu6 := art_free a9 6
    have fr6 := art_free r9 6
    have rr6 := art_cell r9 6
    have u7 := art_cell a9 7
    have fu7 := art_free a9 7
    have fr7 := art_free r9 7
    have rr7 := art_cell r9 7
    have u8 := art_cell a9 8
    have fu8 := art_free a9 8
    have fr8 := art_free r9 8
    have rr8 := art_cell r9 8
    have u9 := art_cell a9 9
    have fu9 := art_free a9 9
    have fr9 := art_free r9 9
    have rr9 := art_cell r9 9
    have u10 := art_cell a9 10
    have fu10 := art_free a9 10
    have fr10 := art_free r9 10
    have rr10 := art_cell r9 10
    simp only [Art.cells, Art.none] at u0 rr0 u1 rr1 u2 rr2 u3 rr3 u4 rr4 u5 rr5 u6 rr6 u7 rr7 u8 rr8 u9 rr9 u10 rr10
    clear a9 r9
    have HIE := Lib.hid (HI2.out.put (a' := ⟨kd, cd, ot, nm, yr, am, x, nu, dy, ls, wh⟩) 6 (.int .i64 x) rfl)
    go_wp2_with fail
    exact bt_end kd cd ot nm yr am x nu dy ls wh HIE.out (by have hsm := HSM.out; exact ⟨⟨by (simp only; omega), by (simp only; omega), by (simp only; omega), by (simp only; omega), by (simp only; omega), by (simp only; omega), by (simp only; omega), by (simp only; omega), by (simp only; omega), by (simp only; omega)⟩, by (simp only; omega), by (simp only; omega), by (simp only; omega)⟩) rfl rfl
  · go_wp2_with fail
    refine (Pick_new tb 5 [0, 4, 5, 1000000, 1000001] #[.int .i64 0, .int .i64 4, .int .i64 5, .int .i64 1000000, .int .i64 1000001] 3 w1 rfl HI1.out.tape (by simp) (by simp) 5 rfl).mono ?_
    rintro e w2 ⟨x, rfl, hx, t2, g2⟩
    have hx2 : -5 ≤ x ∧ x ≤ 1000000000001 := by simp only [List.mem_cons, List.mem_nil_iff, or_false] at hx; omega
    have HI2 := Lib.hid ((HI1.out.below (below_alloc w1 _)).turn t2 g2)
    clear t2 g2 HI1 hx
    have a9 := HI2.out.art
    have r9 := HI2.out.res
    have u0 := art_cell a9 0
    have fu0 := art_free a9 0
    have fr0 := art_free r9 0
    have rr0 := art_cell r9 0
    have u1 := art_cell a9 1
    have fu1 := art_free a9 1
    have fr1 := art_free r9 1
    have rr1 := art_cell r9 1
    have u2 := art_cell a9 2
    have fu2 := art_free a9 2
    have fr2 := art_free r9 2
    have rr2 := art_cell r9 2
    have u3 := art_cell a9 3
    have fu3 := art_free a9 3
    have fr3 := art_free r9 3
    have rr3 := art_cell r9 3
    have u4 := art_cell a9 4
    have fu4 := art_free a9 4
    have fr4 := art_free r9 4
    have rr4 := art_cell r9 4
    have u5 := art_cell a9 5
    have fu5 := art_free a9 5
    have fr5 := art_free r9 5
    have rr5 := art_cell r9 5
    have u6 := art_cell a9 6
    have fu6 := art_free a9 6
    have fr6 := art_free r9 6
    have rr6 := art_cell r9 6
    have u7 := art_cell a9 7
    have fu7 := art_free a9 7
    have fr7 := art_free r9 7
    have rr7 := art_cell r9 7
    have u8 := art_cell a9 8
    have fu8 := art_free a9 8
    have fr8 := art_free r9 8
    have rr8 := art_cell r9 8
    have u9 := art_cell a9 9
    have fu9 := art_free a9 9
    have fr9 := art_free r9 9
    have rr9 := art_cell r9 9
    have u10 := art_cell a9 10
    have fu10 := art_free a9 10
    have fr10 := art_free r9 10
    have rr10 := art_cell r9 10
    simp only [Art.cells, Art.none] at u0 rr0 u1 rr1 u2 rr2 u3 rr3 u4 rr4 u5 rr5 u6 rr6 u7 rr7 u8 rr8 u9 rr9 u10 rr10
    clear a9 r9
    have HIE := Lib.hid (HI2.out.put (a' := ⟨kd, cd, ot, nm, yr, am, pc, x, dy, ls, wh⟩) 7 (.int .i64 x) rfl)
    go_wp2_with fail
    exact bt_end kd cd ot nm yr am pc x dy ls wh HIE.out (by have hsm := HSM.out; exact ⟨⟨by (simp only; omega), by (simp only; omega), by (simp only; omega), by (simp only; omega), by (simp only; omega), by (simp only; omega), by (simp only; omega), by (simp only; omega), by (simp only; omega), by (simp only; omega)⟩, by (simp only; omega), by (simp only; omega), by (simp only; omega)⟩) rfl rfl
  · go_wp2_with fail
    refine (Pick_new tb 4 [(-1), 0, 35990, 35991] #[.int .i64 (-1), .int .i64 0, .int .i64 35990, .int .i64 35991] 3 w1 rfl HI1.out.tape (by simp) (by simp) 4 rfl).mono ?_
    rintro e w2 ⟨x, rfl, hx, t2, g2⟩
    have hx2 : -5 ≤ x ∧ x ≤ 1000000000001 := by simp only [List.mem_cons, List.mem_nil_iff, or_false] at hx; omega
    have HI2 := Lib.hid ((HI1.out.below (below_alloc w1 _)).turn t2 g2)
    clear t2 g2 HI1 hx
    have a9 := HI2.out.art
    have r9 := HI2.out.res
    have u0 := art_cell a9 0
    have fu0 := art_free a9 0
    have fr0 := art_free r9 0
    have rr0 := art_cell r9 0
    have u1 := art_cell a9 1
    have fu1 := art_free a9 1
    have fr1 := art_free r9 1
    have rr1 := art_cell r9 1
    have u2 := art_cell a9 2
    have fu2 := art_free a9 2
    have fr2 := art_free r9 2
    have rr2 := art_cell r9 2
    have u3 := art_cell a9 3
    have fu3 := art_free a9 3
    have fr3 := art_free r9 3
    have rr3 := art_cell r9 3
    have u4 := art_cell a9 4
    have fu4 := art_free a9 4
    have fr4 := art_free r9 4
    have rr4 := art_cell r9 4
    have u5 := art_cell a9 5
    have fu5 := art_free a9 5
    have fr5 := art_free r9 5
    have rr5 := art_cell r9 5
    have u6 := art_cell a9 6
    have fu6 := art_free a9 6
    have fr6 := art_free r9 6
    have rr6 := art_cell r9 6
    have u7 := art_cell a9 7
    have fu7 := art_free a9 7
    have fr7 := art_free r9 7
    have rr7 := art_cell r9 7
    have u8 := art_cell a9 8
    have fu8 := art_free a9 8
    have fr8 := art_free r9 8
    have rr8 := art_cell r9 8
    have u9 := art_cell a9 9
    have fu9 := art_free a9 9
    have fr9 := art_free r9 9
    have rr9 := art_cell r9 9
    have u10 := art_cell a9 10
    have fu10 := art_free a9 10
    have fr10 := art_free r9 10
    have rr10 := art_cell r9 10
    simp only [Art.cells, Art.none] at u0 rr0 u1 rr1 u2 rr2 u3 rr3 u4 rr4 u5 rr5 u6 rr6 u7 rr7 u8 rr8 u9 rr9 u10 rr10
    clear a9 r9
    have HIE := Lib.hid (HI2.out.put (a' := ⟨kd, cd, ot, nm, yr, am, pc, nu, x, ls, wh⟩) 8 (.int .i64 x) rfl)
    go_wp2_with fail
    exact bt_end kd cd ot nm yr am pc nu x ls wh HIE.out (by have hsm := HSM.out; exact ⟨⟨by (simp only; omega), by (simp only; omega), by (simp only; omega), by (simp only; omega), by (simp only; omega), by (simp only; omega), by (simp only; omega), by (simp only; omega), by (simp only; omega), by (simp only; omega)⟩, by (simp only; omega), by (simp only; omega), by (simp only; omega)⟩) rfl rfl
  · have hrow : ∀ W, (w1.alloc (.cells (cellsS bentN).toArray 9)).grownBy W (some tb) → ∀ q : Nat, q < 4 → ∃ x, W.cell? ⟨w1.heap.size, q, none⟩ = some (.string x) ∧ x.size ≤ 2 := fun W hW q hq => by
      have hl : q < bentN.length := hq
      refine ⟨bentN[q], ?_, by simpa using List.all_eq_true.1 bentN_small _ (List.getElem_mem hl)⟩
      rw [grownBy_cell' hW (by simp) (by have := HI1.out.tape.lt; omega), cell_of_row _ _ _ _ _ _ (heap_alloc_new w1 _)]
      simp [cellsS]
    have HR := Lib.hid hrow
    clear hrow
    go_wp2_with fail
    refine (HN.out 4 _ (HI1.out.below (below_alloc w1 (.cells (cellsS bentN).toArray 9))).tape (by omega) (by omega)).mono ?_
    rintro e w2 ⟨q, rfl, q0, q1, t2, g2⟩
    obtain ⟨n, rfl⟩ : ∃ n : Nat, q = n := ⟨q.toNat, by omega⟩
    obtain ⟨x, hx, hz⟩ := HR.out w2 g2 n (by omega)
    have HI2 := Lib.hid ((HI1.out.below (below_alloc w1 _)).turn t2 g2)
    clear t2 g2 HI1 HR
    have a9 := HI2.out.art
    have r9 := HI2.out.res
    have u0 := art_cell a9 0
    have fu0 := art_free a9 0
    have fr0 := art_free r9 0
    have rr0 := art_cell r9 0
    have u1 := art_cell a9 1
    have fu1 := art_free a9 1
    have fr1 := art_free r9 1
    have rr1 := art_cell r9 1
    have u2 := art_cell a9 2
    have fu2 := art_free a9 2
    have fr2 := art_free r9 2
    have rr2 := art_cell r9 2
    have u3 := art_cell a9 3
    have fu3 := art_free a9 3
    have fr3 := art_free r9 3
    have rr3 := art_cell r9 3
    have u4 := art_cell a9 4
    have fu4 := art_free a9 4
    have fr4 := art_free r9 4
    have rr4 := art_cell r9 4
    have u5 := art_cell a9 5
    have fu5 := art_free a9 5
    have fr5 := art_free r9 5
    have rr5 := art_cell r9 5
    have u6 := art_cell a9 6
    have fu6 := art_free a9 6
    have fr6 := art_free r9 6
    have rr6 := art_cell r9 6
    have u7 := art_cell a9 7
    have fu7 := art_free a9 7
    have fr7 := art_free r9 7
    have rr7 := art_cell r9 7
    have u8 := art_cell a9 8
    have fu8 := art_free a9 8
    have fr8 := art_free r9 8
    have rr8 := art_cell r9 8
    have u9 := art_cell a9 9
    have fu9 := art_free a9 9
    have fr9 := art_free r9 9
    have rr9 := art_cell r9 9
    have u10 := art_cell a9 10
    have fu10 := art_free a9 10
    have fr10 := art_free r9 10
    have rr10 := art_cell r9 10
    simp only [Art.cells, Art.none] at u0 rr0 u1 rr1 u2 rr2 u3 rr3 u4 rr4 u5 rr5 u6 rr6 u7 rr7 u8 rr8 u9 rr9 u10 rr10
    clear a9 r9
    have HIE := Lib.hid (HI2.out.put (a' := ⟨kd, cd, ot, x, yr, am, pc, nu, dy, ls, wh⟩) 3 (.string x) rfl)
    go_wp2_with fail
    exact bt_end kd cd ot x yr am pc nu dy ls wh HIE.out (by have hsm := HSM.out; exact ⟨⟨by (simp only; omega), by (simp only; omega), by (simp only; omega), by (simp only; omega), by (simp only; omega), by (simp only; omega), by (simp only; omega), by (simp only; omega), by (simp only; omega), by (simp only; omega)⟩, by (simp only; omega), by (simp only; omega), by (simp only; omega)⟩) rfl rfl
  · go_wp2_with fail
    refine (Range_any tb 0 4 _ HI1.out.tape (by omega) (by omega) (by omega)).mono ?_
    rintro e w2 ⟨y, rfl, yy0, yy1, t2, g2⟩
    have HI2 := Lib.hid (HI1.out.turn t2 g2)
    clear t2 g2 HI1
    go_wp2_with fail
    refine (Pick_new tb 3 [0, (-1), 5] #[.int .i64 0, .int .i64 (-1), .int .i64 5] 3 w2 rfl HI2.out.tape (by simp) (by simp) 3 rfl).mono ?_
    rintro e w3 ⟨x, rfl, hx, t3, g3⟩
    have hx2 : -5 ≤ x ∧ x ≤ 1000000000001 := by simp only [List.mem_cons, List.mem_nil_iff, or_false] at hx; omega
    have HI3 := Lib.hid ((HI2.out.below (below_alloc w2 _)).turn t3 g3)
    clear t3 g3 HI2 hx
    have a9 := HI3.out.art
    have r9 := HI3.out.res
    have u0 := art_cell a9 0
    have fu0 := art_free a9 0
    have fr0 := art_free r9 0
    have rr0 := art_cell r9 0
    have u1 := art_cell a9 1
    have fu1 := art_free a9 1
    have fr1 := art_free r9 1
    have rr1 := art_cell r9 1
    have u2 := art_cell a9 2
    have fu2 := art_free a9 2
    have fr2 := art_free r9 2
    have rr2 := art_cell r9 2
    have u3 := art_cell a9 3
    have fu3 := art_free a9 3
    have fr3 := art_free r9 3
    have rr3 := art_cell r9 3
    have u4 := art_cell a9 4
    have fu4 := art_free a9 4
    have fr4 := art_free r9 4
    have rr4 := art_cell r9 4
    have u5 := art_cell a9 5
    have fu5 := art_free a9 5
    have fr5 := art_free r9 5
    have rr5 := art_cell r9 5
    have u6 := art_cell a9 6
    have fu6 := art_free a9 6
    have fr6 := art_free r9 6
    have rr6 := art_cell r9 6
    have u7 := art_cell a9 7
    have fu7 := art_free a9 7
    have fr7 := art_free r9 7
    have rr7 := art_cell r9 7
    have u8 := art_cell a9 8
    have fu8 := art_free a9 8
    have fr8 := art_free r9 8
    have rr8 := art_cell r9 8
    have u9 := art_cell a9 9
    have fu9 := art_free a9 9
    have fr9 := art_free r9 9
    have rr9 := art_cell r9 9
    have u10 := art_cell a9 10
    have fu10 := art_free a9 10
    have fr10 := art_free r9 10
    have rr10 := art_cell r9 10
    simp only [Art.cells, Art.none] at u0 rr0 u1 rr1 u2 rr2 u3 rr3 u4 rr4 u5 rr5 u6 rr6 u7 rr7 u8 rr8 u9 rr9 u10 rr10
    clear a9 r9
    have HIE := Lib.hid ((HI3.out.put (a' := ⟨kd, cd, ot, nm, yr, am, pc, nu, dy, ls, y⟩) 10 (.int .i64 y) rfl).put (a' := ⟨kd, cd, ot, nm, yr, am, pc, nu, dy, x, y⟩) 9 (.int .i64 x) rfl)
    go_wp2_with fail
    exact bt_end kd cd ot nm yr am pc nu dy x y HIE.out (by have hsm := HSM.out; exact ⟨⟨by (simp only; omega), by (simp only; omega), by (simp only; omega), by (simp only; omega), by (simp only; omega), by (simp only; omega), by (simp only; omega), by (simp only; omega), by (simp only; omega), by (simp only; omega)⟩, by (simp only; omega), by (simp only; omega), by (simp only; omega)⟩) rfl rfl

end Go.Proofs.YtdgckdmgplpobaaGreatDoor
