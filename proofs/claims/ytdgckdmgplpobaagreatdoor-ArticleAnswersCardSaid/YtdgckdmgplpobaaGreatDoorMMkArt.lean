/- The contract of treasurymake.Article: a plain article with codes of a classification; only the tape's place has turned. -/
import Derived.Test.YtdgckdmgplpobaaGreatDoorMG4
import Derived.Deep.RegionHeld3
import Derived.Deep.DeepCutAuto
set_option linter.unusedSimpArgs false
set_option linter.unusedVariables false
namespace Go.Proofs.YtdgckdmgplpobaaGreatDoor
open Go.RowKit Go.Lib Go.Proofs

set_option maxRecDepth 100000 in
set_option maxHeartbeats 8000000 in
theorem mkArticle_any (tb g m cap : Nat) (cs : List ByteArray) (first years : Int) (w : World) (ht : TapeAt w tb) (hc : HeadsAt w tb g m cs) (hg : g < w.heap.size) (hm : 1 ≤ m ∧ m ≤ 1000) (_ : m ≤ cap) (hcs : ∀ j, j < m → isCodeB (cs.getD j ⟨#[]⟩) = true) (f0 : 0 ≤ first) (y0 : 1 ≤ years) (fy : first + years ≤ 99) :
    Calls Tryz.prog 8 #[.pointer (some ⟨tb, 0, none⟩), .slice (some ⟨g, 0, none⟩) m cap, .int .i64 first, .int .i64 years] w (MkPost tb w) := by
  have hlt := ht.lt
  have HR := Lib.hid (Range_any tb 1 10 (w.alloc (.cells Art.none.cells 24)) (ht.below (below_alloc _ _)) (by omega) (by omega) (by omega))
  have HN := Lib.hid (fun (n : Int) W (h : TapeAt W tb) (h1 : 1 ≤ n) (h2 : n ≤ 4611686018427387904) => N_any tb n W h h1 h2)
  have HC := Lib.hid hc
  have HCS := Lib.hid hcs
  have hm1 := hm.1
  have hm2 := hm.2
  clear ht hc hcs
  go_enter Tryz.func8, Tryz.ntmps8
  go_wp2_with fail
  refine (HR.out).mono ?_
  rintro e w1 ⟨k, rfl, k0, k1, t1, g1⟩
  have hi := mkInv_new k t1 g1 hlt
  have HI := Lib.hid hi
  have hgb : g ≠ w.heap.size := by omega
  clear t1 g1 hi
  go_wp2_with fail
  refine (HN.out years _ HI.out.tape (by omega) (by omega)).mono ?_
  rintro e w2 ⟨r2, rfl, r20, r21, t2, g2⟩
  have HI2 := Lib.hid (HI.out.turn t2 g2)
  obtain ⟨yr, hyr⟩ : ∃ yr, yr = first + r2 := ⟨_, rfl⟩
  have y1 : 0 ≤ yr := by omega
  have y2 : yr ≤ 98 := by omega
  generalize hb : w1.heap.size = b at HI2 ⊢
  clear t2 g2 HI HR hb
  go_wp2_with fail
  rw [← hyr]
  clear hyr r20 r21
  refine (HN.out 10000 _ HI2.out.tape (by omega) (by omega)).mono ?_
  rintro e w3 ⟨x3, rfl, x30, x31, t3, g3⟩
  have HI3 := Lib.hid (HI2.out.turn t3 g3)
  clear t3 g3 HI2
  go_wp2_with fail
  refine (HN.out 10000 _ HI3.out.tape (by omega) (by omega)).mono ?_
  rintro e w4 ⟨x4, rfl, x40, x41, t4, g4⟩
  have HI4 := Lib.hid (HI3.out.turn t4 g4)
  clear t4 g4 HI3
  go_wp2_with fail
  refine (Pick_new tb 5 [0, 100, x3, x4, 1000000000000] #[.int .i64 0, .int .i64 100, .int .i64 x3, .int .i64 x4, .int .i64 1000000000000] 3 w4 rfl HI4.out.tape (by simp) (by simp) 5 rfl).mono ?_
  rintro e w5 ⟨am, rfl, ham, t5, g5⟩
  have HI5 := Lib.hid ((HI4.out.below (below_alloc w4 _)).turn t5 g5)
  have am0 : 0 ≤ am ∧ am ≤ 1000000000000 := by simp only [List.mem_cons, List.mem_nil_iff, or_false] at ham; omega
  obtain ⟨am1, am2⟩ := am0
  clear t5 g5 HI4 ham x30 x31 x40 x41
  have hhd : ∀ W, MkInv w tb b { Art.none with kind := k } W → MkInv w tb b { Art.none with kind := k } W ∧ ∀ j, j < m → W.cell? ⟨g, j * 2, none⟩ = some (.string (cs.getD j ⟨#[]⟩)) := fun W h => ⟨h, HC.out W h.old⟩
  have HHD := Lib.hid hhd
  clear hhd
  have hi5 := HI5.out
  go_upto_region 4 with fail
  go_cut [12, 13] (fun s12 s13 wx => ∃ i j : Nat, i < m ∧ j < m ∧ s12 = .string (cs.getD i ⟨#[]⟩) ∧ s13 = .string (cs.getD j ⟨#[]⟩) ∧ MkInv w tb b { Art.none with kind := k } wx)
  case first =>
    go_region_held3 (fun W => MkInv w tb b { Art.none with kind := k } W ∧ ∀ j, j < m → W.cell? ⟨g, j * 2, none⟩ = some (.string (cs.getD j ⟨#[]⟩))) (first | exact HHD.out _ (by assumption) | exact HHD.out _ (MkInv.drew (by assumption)))
      (first | (go_at_call 22; refine (N_heads (And.left (b := ∀ j, j < m → World.cell? _ ⟨g, j * 2, none⟩ = some (.string (cs.getD j ⟨#[]⟩))) (by assumption)) hm).mono ?_; rintro e w' ⟨r, rfl, hr15, hrz0, hrz1, hinv'⟩))
    go_wp2_with fail
    go_meet
    refine ⟨_, _, ?_, ?_, rfl, rfl, by assumption⟩ <;> assumption
  case rest =>
    obtain ⟨i, j, hi, hj, rfl, rfl, hI⟩ := hcut
    have HI6 := Lib.hid hI
    have c1 := HCS.out i hi
    have c2 := HCS.out j hj
    generalize cs.getD i ⟨#[]⟩ = cd at *
    generalize cs.getD j ⟨#[]⟩ = ot at *
    clear hi5 HI5 hI hi hj HHD HC HCS
    go_wp2_with fail
    refine (Pick_new tb 3 [yr, yr, -1] #[.int .i64 yr, .int .i64 yr, .int .i64 (-1)] 3 wc rfl HI6.out.tape (by simp) (by simp) 3 rfl).mono ?_
    rintro e w7 ⟨sp, rfl, hsp, t7, g7⟩
    have HI7 := Lib.hid ((HI6.out.below (below_alloc wc _)).turn t7 g7)
    have sp0 : sp = -1 ∨ 0 ≤ sp ∧ sp ≤ 99 := by simp only [List.mem_cons, List.mem_nil_iff, or_false] at hsp; omega
    clear t7 g7 HI6 hsp
    have hbr : ¬ w.heap.size = b := by have := HI7.out.far; omega
    have hbr2 : ¬ b = w.heap.size := by have := HI7.out.far; omega
    rcases (by omega : k = 1 ∨ k = 2 ∨ k = 3 ∨ k = 4 ∨ k = 5 ∨ k = 6 ∨ k = 7 ∨ k = 8 ∨ k = 9 ∨ k = 10) with rfl | rfl | rfl | rfl | rfl | rfl | rfl | rfl | rfl | rfl
    · have u0 := art_cell HI7.out.art 0
      simp only [Art.cells, Art.none] at u0
      go_wp2_with fail
      refine (HN.out 100 _ HI7.out.tape (by omega) (by omega)).mono ?_
      rintro e w8 ⟨x, rfl, x0, x1, t8, g8⟩
      have HI8 := Lib.hid (HI7.out.turn t8 g8)
      clear t8 g8 HI7 u0
      go_wp2_with fail
      refine (Range_any tb 1 4 _ HI8.out.tape (by omega) (by omega) (by omega)).mono ?_
      rintro e w9 ⟨z, rfl, z0, z1, t9, g9⟩
      have HI9 := Lib.hid (HI8.out.turn t9 g9)
      clear t9 g9 HI8
      have a9 := HI9.out.art
      have r9 := HI9.out.res
      have u0 := art_cell a9 0
      have u1 := art_cell a9 1
      have u2 := art_cell a9 2
      have u3 := art_cell a9 3
      have u4 := art_cell a9 4
      have u5 := art_cell a9 5
      have u6 := art_cell a9 6
      have u7 := art_cell a9 7
      have u8 := art_cell a9 8
      have u9 := art_cell a9 9
      have u10 := art_cell a9 10
      have fu0 := art_free a9 0
      have fu1 := art_free a9 1
      have fu2 := art_free a9 2
      have fu3 := art_free a9 3
      have fu4 := art_free a9 4
      have fu5 := art_free a9 5
      have fu6 := art_free a9 6
      have fu7 := art_free a9 7
      have fu8 := art_free a9 8
      have fu9 := art_free a9 9
      have fu10 := art_free a9 10
      have fr0 := art_free r9 0
      have fr1 := art_free r9 1
      have fr2 := art_free r9 2
      have fr3 := art_free r9 3
      have fr4 := art_free r9 4
      have fr5 := art_free r9 5
      have fr6 := art_free r9 6
      have fr7 := art_free r9 7
      have fr8 := art_free r9 8
      have fr9 := art_free r9 9
      have fr10 := art_free r9 10
      have rr0 := art_cell r9 0
      have rr1 := art_cell r9 1
      have rr2 := art_cell r9 2
      have rr3 := art_cell r9 3
      have rr4 := art_cell r9 4
      have rr5 := art_cell r9 5
      have rr6 := art_cell r9 6
      have rr7 := art_cell r9 7
      have rr8 := art_cell r9 8
      have rr9 := art_cell r9 9
      have rr10 := art_cell r9 10
      simp only [Art.cells, Art.none] at u0 rr0 u1 rr1 u2 rr2 u3 rr3 u4 rr4 u5 rr5 u6 rr6 u7 rr7 u8 rr8 u9 rr9 u10 rr10
      clear a9 r9
      go_wp2_with fail
      exact mk_end (1) (⟨#[]⟩) (⟨#[]⟩) (⟨#[]⟩) (x) (0) (0) (z) (0) (0) (0) (MkInv.put (a' := ⟨1, ⟨#[]⟩, ⟨#[]⟩, ⟨#[]⟩, x, 0, 0, z, 0, 0, 0⟩) (MkInv.put (a' := ⟨1, ⟨#[]⟩, ⟨#[]⟩, ⟨#[]⟩, x, 0, 0, 0, 0, 0, 0⟩) HI9.out 4 (.int .i64 (x)) rfl) 7 (.int .i64 (z)) rfl) (pl_years x z (by omega) (by omega)) rfl rfl
    · have u0 := art_cell HI7.out.art 0
      simp only [Art.cells, Art.none] at u0
      go_upto_region 15 with fail
      clear u0
      have hlt7 := HI7.out.art.lt
      have hT := tape_ways HI7.out
      have NM := Lib.hid heading_names
      go_region_with (go_at_call 22; refine (HN.out 3 _ (by first | exact hT.1 | exact hT.2.1 | exact hT.2.2.1 _ | exact hT.2.2.2 _) (by omega) (by omega)).mono ?_; rintro e w8 ⟨r, rfl, r0, r1, t8, g8⟩; (have hi8 : MkInv w tb b { Art.none with kind := 2 } w8 := (by first | exact HI7.out.turn t8 g8 | exact HI7.out.drew.turn t8 g8 | exact (HI7.out.below (below_alloc w7 _)).turn t8 g8 | exact (HI7.out.below (below_alloc w7 _)).drew.turn t8 g8)); (obtain ⟨x, hx, hy⟩ := NM.out r r0 r1); (obtain ⟨r, rfl⟩ : ∃ n : Nat, r = n := ⟨r.toNat, by omega⟩); (have fu1 := art_free hi8.art 1); (have fu3 := art_free hi8.art 3); (have u1 := art_cell hi8.art 1); (have u3 := art_cell hi8.art 3); (simp only [Art.cells, Art.none] at u1 u3); (try have z1 := names_before w7 _ w8 tb r x hy (by rfl) g8 (by have := HI7.out.tape.lt; omega)); (try have z3 := fun v => names_before2 w7 _ w8 tb b 1 v r x hy (by rfl) g8 (by have := HI7.out.tape.lt; omega) (by omega)); (have y1 := fun W => names_after W r x hy); (have y2 := fun W v => names_after2 W b 1 v r x hy); (have y3 := fun v => names_after3 w8 b 1 v r x hy (by have := hi8.art.lt; omega)); (have y4 := fun v => names_after3 w8.drew b 1 v r x hy (by have := hi8.drew.art.lt; omega)); (have hb8 := hi8.art.lt); (have hrN : r < 3 := (by omega)); (have q1 : ¬ b = w7.heap.size := (by omega)); (have q2 : ¬ w7.heap.size = b := (by omega)); (have q3 : ¬ b = w8.heap.size := (by have := hi8.art.lt; omega)); (have q4 : ¬ w8.heap.size = b := (by have := hi8.art.lt; omega)); clear t8 g8; (have hr0 : (0 : Int) ≤ (r : Int) := r0); (have hr3 : (r : Int) < 3 := r1))
      · have hA := MkInv.put (a' := ⟨2, cd, ⟨#[]⟩, x, 0, 0, 0, 0, 0, 0, 0⟩) (MkInv.put (a' := ⟨2, cd, ⟨#[]⟩, ⟨#[]⟩, 0, 0, 0, 0, 0, 0, 0⟩) hi8 1 (.string cd) rfl) 3 (.string x) rfl
        generalize ((w8.setCell ⟨b, 1, none⟩ (.string cd)).setCell ⟨b, 3, none⟩ (.string x)) = W9 at hA ⊢
        have HE := Lib.hid hA
        clear hA hi8 fu1 fu3 u1 u3 y1 y2 y3 y4 q1 q2 q3 q4 hb8
        have a9 := HE.out.art
        have r9 := HE.out.res
        have u0 := art_cell a9 0
        have u1 := art_cell a9 1
        have u2 := art_cell a9 2
        have u3 := art_cell a9 3
        have u4 := art_cell a9 4
        have u5 := art_cell a9 5
        have u6 := art_cell a9 6
        have u7 := art_cell a9 7
        have u8 := art_cell a9 8
        have u9 := art_cell a9 9
        have u10 := art_cell a9 10
        have fu0 := art_free a9 0
        have fu1 := art_free a9 1
        have fu2 := art_free a9 2
        have fu3 := art_free a9 3
        have fu4 := art_free a9 4
        have fu5 := art_free a9 5
        have fu6 := art_free a9 6
        have fu7 := art_free a9 7
        have fu8 := art_free a9 8
        have fu9 := art_free a9 9
        have fu10 := art_free a9 10
        have fr0 := art_free r9 0
        have fr1 := art_free r9 1
        have fr2 := art_free r9 2
        have fr3 := art_free r9 3
        have fr4 := art_free r9 4
        have fr5 := art_free r9 5
        have fr6 := art_free r9 6
        have fr7 := art_free r9 7
        have fr8 := art_free r9 8
        have fr9 := art_free r9 9
        have fr10 := art_free r9 10
        have rr0 := art_cell r9 0
        have rr1 := art_cell r9 1
        have rr2 := art_cell r9 2
        have rr3 := art_cell r9 3
        have rr4 := art_cell r9 4
        have rr5 := art_cell r9 5
        have rr6 := art_cell r9 6
        have rr7 := art_cell r9 7
        have rr8 := art_cell r9 8
        have rr9 := art_cell r9 9
        have rr10 := art_cell r9 10
        simp only [Art.cells, Art.none] at u0 rr0 u1 rr1 u2 rr2 u3 rr3 u4 rr4 u5 rr5 u6 rr6 u7 rr7 u8 rr8 u9 rr9 u10 rr10
        clear a9 r9
        go_wp2_with fail
        exact mk_end 2 cd (⟨#[]⟩) x 0 0 0 0 0 0 0 HE.out (pl_heading cd x c1 hx) rfl rfl
      · have hA := MkInv.put (a' := ⟨2, cd, ⟨#[]⟩, x, 0, 0, 0, 0, 0, 0, 0⟩) (MkInv.put (a' := ⟨2, cd, ⟨#[]⟩, ⟨#[]⟩, 0, 0, 0, 0, 0, 0, 0⟩) hi8 1 (.string cd) rfl) 3 (.string x) rfl
        generalize ((w8.setCell ⟨b, 1, none⟩ (.string cd)).setCell ⟨b, 3, none⟩ (.string x)) = W9 at hA ⊢
        have HE := Lib.hid hA
        clear hA hi8 fu1 fu3 u1 u3 y1 y2 y3 y4 q1 q2 q3 q4 hb8
        have a9 := HE.out.art
        have r9 := HE.out.res
        have u0 := art_cell a9 0
        have u1 := art_cell a9 1
        have u2 := art_cell a9 2
        have u3 := art_cell a9 3
        have u4 := art_cell a9 4
        have u5 := art_cell a9 5
        have u6 := art_cell a9 6
        have u7 := art_cell a9 7
        have u8 := art_cell a9 8
        have u9 := art_cell a9 9
        have u10 := art_cell a9 10
        have fu0 := art_free a9 0
        have fu1 := art_free a9 1
        have fu2 := art_free a9 2
        have fu3 := art_free a9 3
        have fu4 := art_free a9 4
        have fu5 := art_free a9 5
        have fu6 := art_free a9 6
        have fu7 := art_free a9 7
        have fu8 := art_free a9 8
        have fu9 := art_free a9 9
        have fu10 := art_free a9 10
        have fr0 := art_free r9 0
        have fr1 := art_free r9 1
        have fr2 := art_free r9 2
        have fr3 := art_free r9 3
        have fr4 := art_free r9 4
        have fr5 := art_free r9 5
        have fr6 := art_free r9 6
        have fr7 := art_free r9 7
        have fr8 := art_free r9 8
        have fr9 := art_free r9 9
        have fr10 := art_free r9 10
        have rr0 := art_cell r9 0
        have rr1 := art_cell r9 1
        have rr2 := art_cell r9 2
        have rr3 := art_cell r9 3
        have rr4 := art_cell r9 4
        have rr5 := art_cell r9 5
        have rr6 := art_cell r9 6
        have rr7 := art_cell r9 7
        have rr8 := art_cell r9 8
        have rr9 := art_cell r9 9
        have rr10 := art_cell r9 10
        simp only [Art.cells, Art.none] at u0 rr0 u1 rr1 u2 rr2 u3 rr3 u4 rr4 u5 rr5 u6 rr6 u7 rr7 u8 rr8 u9 rr9 u10 rr10
        clear a9 r9
        go_wp2_with fail
        exact mk_end 2 cd (⟨#[]⟩) x 0 0 0 0 0 0 0 HE.out (pl_heading cd x c1 hx) rfl rfl
      · have hA := MkInv.put (a' := ⟨2, cd, ⟨#[]⟩, x, 0, 0, 0, 0, 0, 0, 0⟩) (MkInv.put (a' := ⟨2, cd, ⟨#[]⟩, ⟨#[]⟩, 0, 0, 0, 0, 0, 0, 0⟩) hi8 1 (.string cd) rfl) 3 (.string x) rfl
        replace hA := hA.below (below_alloc _ (.cells #[.string ⟨#[120]⟩, .string ⟨#[97, 32, 98]⟩, .string ⟨#[99, 111, 117, 114, 116, 32, 111, 102, 32, 97, 117, 100, 105, 116]⟩] 9))
        generalize ((w8.setCell ⟨b, 1, none⟩ (.string cd)).setCell ⟨b, 3, none⟩ (.string x)).alloc (.cells #[.string ⟨#[120]⟩, .string ⟨#[97, 32, 98]⟩, .string ⟨#[99, 111, 117, 114, 116, 32, 111, 102, 32, 97, 117, 100, 105, 116]⟩] 9) = W9 at hA ⊢
        have HE := Lib.hid hA
        clear hA hi8 fu1 fu3 u1 u3 y1 y2 y3 y4 q1 q2 q3 q4 hb8
        have a9 := HE.out.art
        have r9 := HE.out.res
        have u0 := art_cell a9 0
        have u1 := art_cell a9 1
        have u2 := art_cell a9 2
        have u3 := art_cell a9 3
        have u4 := art_cell a9 4
        have u5 := art_cell a9 5
        have u6 := art_cell a9 6
        have u7 := art_cell a9 7
        have u8 := art_cell a9 8
        have u9 := art_cell a9 9
        have u10 := art_cell a9 10
        have fu0 := art_free a9 0
        have fu1 := art_free a9 1
        have fu2 := art_free a9 2
        have fu3 := art_free a9 3
        have fu4 := art_free a9 4
        have fu5 := art_free a9 5
        have fu6 := art_free a9 6
        have fu7 := art_free a9 7
        have fu8 := art_free a9 8
        have fu9 := art_free a9 9
        have fu10 := art_free a9 10
        have fr0 := art_free r9 0
        have fr1 := art_free r9 1
        have fr2 := art_free r9 2
        have fr3 := art_free r9 3
        have fr4 := art_free r9 4
        have fr5 := art_free r9 5
        have fr6 := art_free r9 6
        have fr7 := art_free r9 7
        have fr8 := art_free r9 8
        have fr9 := art_free r9 9
        have fr10 := art_free r9 10
        have rr0 := art_cell r9 0
        have rr1 := art_cell r9 1
        have rr2 := art_cell r9 2
        have rr3 := art_cell r9 3
        have rr4 := art_cell r9 4
        have rr5 := art_cell r9 5
        have rr6 := art_cell r9 6
        have rr7 := art_cell r9 7
        have rr8 := art_cell r9 8
        have rr9 := art_cell r9 9
        have rr10 := art_cell r9 10
        simp only [Art.cells, Art.none] at u0 rr0 u1 rr1 u2 rr2 u3 rr3 u4 rr4 u5 rr5 u6 rr6 u7 rr7 u8 rr8 u9 rr9 u10 rr10
        clear a9 r9
        go_wp2_with fail
        exact mk_end 2 cd (⟨#[]⟩) x 0 0 0 0 0 0 0 HE.out (pl_heading cd x c1 hx) rfl rfl
      · have hA := MkInv.put (a' := ⟨2, cd, ⟨#[]⟩, x, 0, 0, 0, 0, 0, 0, 0⟩) (MkInv.put (a' := ⟨2, cd, ⟨#[]⟩, ⟨#[]⟩, 0, 0, 0, 0, 0, 0, 0⟩) hi8 1 (.string cd) rfl) 3 (.string x) rfl
        replace hA := hA.below (below_alloc _ (.cells #[.string ⟨#[120]⟩, .string ⟨#[97, 32, 98]⟩, .string ⟨#[99, 111, 117, 114, 116, 32, 111, 102, 32, 97, 117, 100, 105, 116]⟩] 9))
        generalize ((w8.setCell ⟨b, 1, none⟩ (.string cd)).setCell ⟨b, 3, none⟩ (.string x)).alloc (.cells #[.string ⟨#[120]⟩, .string ⟨#[97, 32, 98]⟩, .string ⟨#[99, 111, 117, 114, 116, 32, 111, 102, 32, 97, 117, 100, 105, 116]⟩] 9) = W9 at hA ⊢
        have HE := Lib.hid hA
        clear hA hi8 fu1 fu3 u1 u3 y1 y2 y3 y4 q1 q2 q3 q4 hb8
        have a9 := HE.out.art
        have r9 := HE.out.res
        have u0 := art_cell a9 0
        have u1 := art_cell a9 1
        have u2 := art_cell a9 2
        have u3 := art_cell a9 3
        have u4 := art_cell a9 4
        have u5 := art_cell a9 5
        have u6 := art_cell a9 6
        have u7 := art_cell a9 7
        have u8 := art_cell a9 8
        have u9 := art_cell a9 9
        have u10 := art_cell a9 10
        have fu0 := art_free a9 0
        have fu1 := art_free a9 1
        have fu2 := art_free a9 2
        have fu3 := art_free a9 3
        have fu4 := art_free a9 4
        have fu5 := art_free a9 5
        have fu6 := art_free a9 6
        have fu7 := art_free a9 7
        have fu8 := art_free a9 8
        have fu9 := art_free a9 9
        have fu10 := art_free a9 10
        have fr0 := art_free r9 0
        have fr1 := art_free r9 1
        have fr2 := art_free r9 2
        have fr3 := art_free r9 3
        have fr4 := art_free r9 4
        have fr5 := art_free r9 5
        have fr6 := art_free r9 6
        have fr7 := art_free r9 7
        have fr8 := art_free r9 8
        have fr9 := art_free r9 9
        have fr10 := art_free r9 10
        have rr0 := art_cell r9 0
        have rr1 := art_cell r9 1
        have rr2 := art_cell r9 2
        have rr3 := art_cell r9 3
        have rr4 := art_cell r9 4
        have rr5 := art_cell r9 5
        have rr6 := art_cell r9 6
        have rr7 := art_cell r9 7
        have rr8 := art_cell r9 8
        have rr9 := art_cell r9 9
        have rr10 := art_cell r9 10
        simp only [Art.cells, Art.none] at u0 rr0 u1 rr1 u2 rr2 u3 rr3 u4 rr4 u5 rr5 u6 rr6 u7 rr7 u8 rr8 u9 rr9 u10 rr10
        clear a9 r9
        go_wp2_with fail
        exact mk_end 2 cd (⟨#[]⟩) x 0 0 0 0 0 0 0 HE.out (pl_heading cd x c1 hx) rfl rfl
      · have hA := MkInv.put (a' := ⟨2, cd, ⟨#[]⟩, x, 0, 0, 0, 0, 0, 0, 0⟩) (MkInv.put (a' := ⟨2, cd, ⟨#[]⟩, ⟨#[]⟩, 0, 0, 0, 0, 0, 0, 0⟩) hi8 1 (.string cd) rfl) 3 (.string x) rfl
        replace hA := hA.below (below_alloc _ (.cells #[.string ⟨#[120]⟩, .string ⟨#[97, 32, 98]⟩, .string ⟨#[99, 111, 117, 114, 116, 32, 111, 102, 32, 97, 117, 100, 105, 116]⟩] 9))
        generalize ((w8.setCell ⟨b, 1, none⟩ (.string cd)).setCell ⟨b, 3, none⟩ (.string x)).alloc (.cells #[.string ⟨#[120]⟩, .string ⟨#[97, 32, 98]⟩, .string ⟨#[99, 111, 117, 114, 116, 32, 111, 102, 32, 97, 117, 100, 105, 116]⟩] 9) = W9 at hA ⊢
        have HE := Lib.hid hA
        clear hA hi8 fu1 fu3 u1 u3 y1 y2 y3 y4 q1 q2 q3 q4 hb8
        have a9 := HE.out.art
        have r9 := HE.out.res
        have u0 := art_cell a9 0
        have u1 := art_cell a9 1
        have u2 := art_cell a9 2
        have u3 := art_cell a9 3
        have u4 := art_cell a9 4
        have u5 := art_cell a9 5
        have u6 := art_cell a9 6
        have u7 := art_cell a9 7
        have u8 := art_cell a9 8
        have u9 := art_cell a9 9
        have u10 := art_cell a9 10
        have fu0 := art_free a9 0
        have fu1 := art_free a9 1
        have fu2 := art_free a9 2
        have fu3 := art_free a9 3
        have fu4 := art_free a9 4
        have fu5 := art_free a9 5
        have fu6 := art_free a9 6
        have fu7 := art_free a9 7
        have fu8 := art_free a9 8
        have fu9 := art_free a9 9
        have fu10 := art_free a9 10
        have fr0 := art_free r9 0
        have fr1 := art_free r9 1
        have fr2 := art_free r9 2
        have fr3 := art_free r9 3
        have fr4 := art_free r9 4
        have fr5 := art_free r9 5
        have fr6 := art_free r9 6
        have fr7 := art_free r9 7
        have fr8 := art_free r9 8
        have fr9 := art_free r9 9
        have fr10 := art_free r9 10
        have rr0 := art_cell r9 0
        have rr1 := art_cell r9 1
        have rr2 := art_cell r9 2
        have rr3 := art_cell r9 3
        have rr4 := art_cell r9 4
        have rr5 := art_cell r9 5
        have rr6 := art_cell r9 6
        have rr7 := art_cell r9 7
        have rr8 := art_cell r9 8
        have rr9 := art_cell r9 9
        have rr10 := art_cell r9 10
        simp only [Art.cells, Art.none] at u0 rr0 u1 rr1 u2 rr2 u3 rr3 u4 rr4 u5 rr5 u6 rr6 u7 rr7 u8 rr8 u9 rr9 u10 rr10
        clear a9 r9
        go_wp2_with fail
        exact mk_end 2 cd (⟨#[]⟩) x 0 0 0 0 0 0 0 HE.out (pl_heading cd x c1 hx) rfl rfl
    · have a9 := HI7.out.art
      have r9 := HI7.out.res
      have u0 := art_cell a9 0
      have u1 := art_cell a9 1
      have u2 := art_cell a9 2
      have u3 := art_cell a9 3
      have u4 := art_cell a9 4
      have u5 := art_cell a9 5
      have u6 := art_cell a9 6
      have u7 := art_cell a9 7
      have u8 := art_cell a9 8
      have u9 := art_cell a9 9
      have u10 := art_cell a9 10
      have fu0 := art_free a9 0
      have fu1 := art_free a9 1
      have fu2 := art_free a9 2
      have fu3 := art_free a9 3
      have fu4 := art_free a9 4
      have fu5 := art_free a9 5
      have fu6 := art_free a9 6
      have fu7 := art_free a9 7
      have fu8 := art_free a9 8
      have fu9 := art_free a9 9
      have fu10 := art_free a9 10
      have fr0 := art_free r9 0
      have fr1 := art_free r9 1
      have fr2 := art_free r9 2
      have fr3 := art_free r9 3
      have fr4 := art_free r9 4
      have fr5 := art_free r9 5
      have fr6 := art_free r9 6
      have fr7 := art_free r9 7
      have fr8 := art_free r9 8
      have fr9 := art_free r9 9
      have fr10 := art_free r9 10
      have rr0 := art_cell r9 0
      have rr1 := art_cell r9 1
      have rr2 := art_cell r9 2
      have rr3 := art_cell r9 3
      have rr4 := art_cell r9 4
      have rr5 := art_cell r9 5
      have rr6 := art_cell r9 6
      have rr7 := art_cell r9 7
      have rr8 := art_cell r9 8
      have rr9 := art_cell r9 9
      have rr10 := art_cell r9 10
      simp only [Art.cells, Art.none] at u0 rr0 u1 rr1 u2 rr2 u3 rr3 u4 rr4 u5 rr5 u6 rr6 u7 rr7 u8 rr8 u9 rr9 u10 rr10
      clear a9 r9
      go_wp2_with fail
      exact mk_end (3) (cd) (⟨#[]⟩) (⟨#[]⟩) (yr) (am) (0) (0) (0) (0) (0) (MkInv.put (a' := ⟨3, cd, ⟨#[]⟩, ⟨#[]⟩, yr, am, 0, 0, 0, 0, 0⟩) (MkInv.put (a' := ⟨3, cd, ⟨#[]⟩, ⟨#[]⟩, yr, 0, 0, 0, 0, 0, 0⟩) (MkInv.put (a' := ⟨3, cd, ⟨#[]⟩, ⟨#[]⟩, 0, 0, 0, 0, 0, 0, 0⟩) HI7.out 1 (.string cd) rfl) 4 (.int .i64 (yr)) rfl) 5 (.int .i64 (am)) rfl) (pl_line cd yr am c1 (by omega) (by omega)) rfl rfl
    · have a9 := HI7.out.art
      have r9 := HI7.out.res
      have u0 := art_cell a9 0
      have u1 := art_cell a9 1
      have u2 := art_cell a9 2
      have u3 := art_cell a9 3
      have u4 := art_cell a9 4
      have u5 := art_cell a9 5
      have u6 := art_cell a9 6
      have u7 := art_cell a9 7
      have u8 := art_cell a9 8
      have u9 := art_cell a9 9
      have u10 := art_cell a9 10
      have fu0 := art_free a9 0
      have fu1 := art_free a9 1
      have fu2 := art_free a9 2
      have fu3 := art_free a9 3
      have fu4 := art_free a9 4
      have fu5 := art_free a9 5
      have fu6 := art_free a9 6
      have fu7 := art_free a9 7
      have fu8 := art_free a9 8
      have fu9 := art_free a9 9
      have fu10 := art_free a9 10
      have fr0 := art_free r9 0
      have fr1 := art_free r9 1
      have fr2 := art_free r9 2
      have fr3 := art_free r9 3
      have fr4 := art_free r9 4
      have fr5 := art_free r9 5
      have fr6 := art_free r9 6
      have fr7 := art_free r9 7
      have fr8 := art_free r9 8
      have fr9 := art_free r9 9
      have fr10 := art_free r9 10
      have rr0 := art_cell r9 0
      have rr1 := art_cell r9 1
      have rr2 := art_cell r9 2
      have rr3 := art_cell r9 3
      have rr4 := art_cell r9 4
      have rr5 := art_cell r9 5
      have rr6 := art_cell r9 6
      have rr7 := art_cell r9 7
      have rr8 := art_cell r9 8
      have rr9 := art_cell r9 9
      have rr10 := art_cell r9 10
      simp only [Art.cells, Art.none] at u0 rr0 u1 rr1 u2 rr2 u3 rr3 u4 rr4 u5 rr5 u6 rr6 u7 rr7 u8 rr8 u9 rr9 u10 rr10
      clear a9 r9
      go_wp2_with fail
      exact mk_end (4) (cd) (⟨#[]⟩) (⟨#[]⟩) (sp) (am) (0) (0) (0) (0) (0) (MkInv.put (a' := ⟨4, cd, ⟨#[]⟩, ⟨#[]⟩, sp, am, 0, 0, 0, 0, 0⟩) (MkInv.put (a' := ⟨4, cd, ⟨#[]⟩, ⟨#[]⟩, sp, 0, 0, 0, 0, 0, 0⟩) (MkInv.put (a' := ⟨4, cd, ⟨#[]⟩, ⟨#[]⟩, 0, 0, 0, 0, 0, 0, 0⟩) HI7.out 1 (.string cd) rfl) 4 (.int .i64 (sp)) rfl) 5 (.int .i64 (am)) rfl) (pl_ceiling cd sp am c1 (by omega) (by omega)) rfl rfl
    · have a9 := HI7.out.art
      have r9 := HI7.out.res
      have u0 := art_cell a9 0
      have u1 := art_cell a9 1
      have u2 := art_cell a9 2
      have u3 := art_cell a9 3
      have u4 := art_cell a9 4
      have u5 := art_cell a9 5
      have u6 := art_cell a9 6
      have u7 := art_cell a9 7
      have u8 := art_cell a9 8
      have u9 := art_cell a9 9
      have u10 := art_cell a9 10
      have fu0 := art_free a9 0
      have fu1 := art_free a9 1
      have fu2 := art_free a9 2
      have fu3 := art_free a9 3
      have fu4 := art_free a9 4
      have fu5 := art_free a9 5
      have fu6 := art_free a9 6
      have fu7 := art_free a9 7
      have fu8 := art_free a9 8
      have fu9 := art_free a9 9
      have fu10 := art_free a9 10
      have fr0 := art_free r9 0
      have fr1 := art_free r9 1
      have fr2 := art_free r9 2
      have fr3 := art_free r9 3
      have fr4 := art_free r9 4
      have fr5 := art_free r9 5
      have fr6 := art_free r9 6
      have fr7 := art_free r9 7
      have fr8 := art_free r9 8
      have fr9 := art_free r9 9
      have fr10 := art_free r9 10
      have rr0 := art_cell r9 0
      have rr1 := art_cell r9 1
      have rr2 := art_cell r9 2
      have rr3 := art_cell r9 3
      have rr4 := art_cell r9 4
      have rr5 := art_cell r9 5
      have rr6 := art_cell r9 6
      have rr7 := art_cell r9 7
      have rr8 := art_cell r9 8
      have rr9 := art_cell r9 9
      have rr10 := art_cell r9 10
      simp only [Art.cells, Art.none] at u0 rr0 u1 rr1 u2 rr2 u3 rr3 u4 rr4 u5 rr5 u6 rr6 u7 rr7 u8 rr8 u9 rr9 u10 rr10
      clear a9 r9
      go_wp2_with fail
      exact mk_end (5) (cd) (⟨#[]⟩) (⟨#[]⟩) (sp) (am) (0) (0) (0) (0) (0) (MkInv.put (a' := ⟨5, cd, ⟨#[]⟩, ⟨#[]⟩, sp, am, 0, 0, 0, 0, 0⟩) (MkInv.put (a' := ⟨5, cd, ⟨#[]⟩, ⟨#[]⟩, sp, 0, 0, 0, 0, 0, 0⟩) (MkInv.put (a' := ⟨5, cd, ⟨#[]⟩, ⟨#[]⟩, 0, 0, 0, 0, 0, 0, 0⟩) HI7.out 1 (.string cd) rfl) 4 (.int .i64 (sp)) rfl) 5 (.int .i64 (am)) rfl) (pl_floor cd sp am c1 (by omega) (by omega)) rfl rfl
    · have u0 := art_cell HI7.out.art 0
      simp only [Art.cells, Art.none] at u0
      go_wp2_with fail
      refine (HN.out 101 _ HI7.out.tape (by omega) (by omega)).mono ?_
      rintro e w8 ⟨x, rfl, x0, x1, t8, g8⟩
      have HI8 := Lib.hid (HI7.out.turn t8 g8)
      clear t8 g8 HI7 u0
      have a9 := HI8.out.art
      have r9 := HI8.out.res
      have u0 := art_cell a9 0
      have u1 := art_cell a9 1
      have u2 := art_cell a9 2
      have u3 := art_cell a9 3
      have u4 := art_cell a9 4
      have u5 := art_cell a9 5
      have u6 := art_cell a9 6
      have u7 := art_cell a9 7
      have u8 := art_cell a9 8
      have u9 := art_cell a9 9
      have u10 := art_cell a9 10
      have fu0 := art_free a9 0
      have fu1 := art_free a9 1
      have fu2 := art_free a9 2
      have fu3 := art_free a9 3
      have fu4 := art_free a9 4
      have fu5 := art_free a9 5
      have fu6 := art_free a9 6
      have fu7 := art_free a9 7
      have fu8 := art_free a9 8
      have fu9 := art_free a9 9
      have fu10 := art_free a9 10
      have fr0 := art_free r9 0
      have fr1 := art_free r9 1
      have fr2 := art_free r9 2
      have fr3 := art_free r9 3
      have fr4 := art_free r9 4
      have fr5 := art_free r9 5
      have fr6 := art_free r9 6
      have fr7 := art_free r9 7
      have fr8 := art_free r9 8
      have fr9 := art_free r9 9
      have fr10 := art_free r9 10
      have rr0 := art_cell r9 0
      have rr1 := art_cell r9 1
      have rr2 := art_cell r9 2
      have rr3 := art_cell r9 3
      have rr4 := art_cell r9 4
      have rr5 := art_cell r9 5
      have rr6 := art_cell r9 6
      have rr7 := art_cell r9 7
      have rr8 := art_cell r9 8
      have rr9 := art_cell r9 9
      have rr10 := art_cell r9 10
      simp only [Art.cells, Art.none] at u0 rr0 u1 rr1 u2 rr2 u3 rr3 u4 rr4 u5 rr5 u6 rr6 u7 rr7 u8 rr8 u9 rr9 u10 rr10
      clear a9 r9
      go_wp2_with fail
      exact mk_end (6) (cd) (ot) (⟨#[]⟩) (0) (0) (x) (0) (0) (0) (0) (MkInv.put (a' := ⟨6, cd, ot, ⟨#[]⟩, 0, 0, x, 0, 0, 0, 0⟩) (MkInv.put (a' := ⟨6, cd, ot, ⟨#[]⟩, 0, 0, 0, 0, 0, 0, 0⟩) (MkInv.put (a' := ⟨6, ⟨#[]⟩, ot, ⟨#[]⟩, 0, 0, 0, 0, 0, 0, 0⟩) HI8.out 2 (.string ot) rfl) 1 (.string cd) rfl) 6 (.int .i64 (x)) rfl) (pl_earmark cd ot x c1 c2 (by omega)) rfl rfl
    · have u0 := art_cell HI7.out.art 0
      simp only [Art.cells, Art.none] at u0
      go_wp2_with fail
      refine (HN.out 2000 _ HI7.out.tape (by omega) (by omega)).mono ?_
      rintro e w8 ⟨x, rfl, x0, x1, t8, g8⟩
      have HI8 := Lib.hid (HI7.out.turn t8 g8)
      clear t8 g8 HI7 u0
      have a9 := HI8.out.art
      have r9 := HI8.out.res
      have u0 := art_cell a9 0
      have u1 := art_cell a9 1
      have u2 := art_cell a9 2
      have u3 := art_cell a9 3
      have u4 := art_cell a9 4
      have u5 := art_cell a9 5
      have u6 := art_cell a9 6
      have u7 := art_cell a9 7
      have u8 := art_cell a9 8
      have u9 := art_cell a9 9
      have u10 := art_cell a9 10
      have fu0 := art_free a9 0
      have fu1 := art_free a9 1
      have fu2 := art_free a9 2
      have fu3 := art_free a9 3
      have fu4 := art_free a9 4
      have fu5 := art_free a9 5
      have fu6 := art_free a9 6
      have fu7 := art_free a9 7
      have fu8 := art_free a9 8
      have fu9 := art_free a9 9
      have fu10 := art_free a9 10
      have fr0 := art_free r9 0
      have fr1 := art_free r9 1
      have fr2 := art_free r9 2
      have fr3 := art_free r9 3
      have fr4 := art_free r9 4
      have fr5 := art_free r9 5
      have fr6 := art_free r9 6
      have fr7 := art_free r9 7
      have fr8 := art_free r9 8
      have fr9 := art_free r9 9
      have fr10 := art_free r9 10
      have rr0 := art_cell r9 0
      have rr1 := art_cell r9 1
      have rr2 := art_cell r9 2
      have rr3 := art_cell r9 3
      have rr4 := art_cell r9 4
      have rr5 := art_cell r9 5
      have rr6 := art_cell r9 6
      have rr7 := art_cell r9 7
      have rr8 := art_cell r9 8
      have rr9 := art_cell r9 9
      have rr10 := art_cell r9 10
      simp only [Art.cells, Art.none] at u0 rr0 u1 rr1 u2 rr2 u3 rr3 u4 rr4 u5 rr5 u6 rr6 u7 rr7 u8 rr8 u9 rr9 u10 rr10
      clear a9 r9
      go_wp2_with fail
      exact mk_end (7) (cd) (⟨#[]⟩) (⟨#[]⟩) (yr) (am) (0) (0) (x) (0) (0) (MkInv.put (a' := ⟨7, cd, ⟨#[]⟩, ⟨#[]⟩, yr, am, 0, 0, x, 0, 0⟩) (MkInv.put (a' := ⟨7, cd, ⟨#[]⟩, ⟨#[]⟩, yr, am, 0, 0, 0, 0, 0⟩) (MkInv.put (a' := ⟨7, cd, ⟨#[]⟩, ⟨#[]⟩, yr, 0, 0, 0, 0, 0, 0⟩) (MkInv.put (a' := ⟨7, cd, ⟨#[]⟩, ⟨#[]⟩, 0, 0, 0, 0, 0, 0, 0⟩) HI8.out 1 (.string cd) rfl) 4 (.int .i64 (yr)) rfl) 5 (.int .i64 (am)) rfl) 8 (.int .i64 (x)) rfl) (pl_wait cd yr am x c1 (by omega) (by omega) (by omega)) rfl rfl
    · have u0 := art_cell HI7.out.art 0
      simp only [Art.cells, Art.none] at u0
      go_wp2_with fail
      refine (HN.out 5000 _ HI7.out.tape (by omega) (by omega)).mono ?_
      rintro e w8 ⟨x, rfl, x0, x1, t8, g8⟩
      have HI8 := Lib.hid (HI7.out.turn t8 g8)
      clear t8 g8 HI7 u0
      have a9 := HI8.out.art
      have r9 := HI8.out.res
      have u0 := art_cell a9 0
      have u1 := art_cell a9 1
      have u2 := art_cell a9 2
      have u3 := art_cell a9 3
      have u4 := art_cell a9 4
      have u5 := art_cell a9 5
      have u6 := art_cell a9 6
      have u7 := art_cell a9 7
      have u8 := art_cell a9 8
      have u9 := art_cell a9 9
      have u10 := art_cell a9 10
      have fu0 := art_free a9 0
      have fu1 := art_free a9 1
      have fu2 := art_free a9 2
      have fu3 := art_free a9 3
      have fu4 := art_free a9 4
      have fu5 := art_free a9 5
      have fu6 := art_free a9 6
      have fu7 := art_free a9 7
      have fu8 := art_free a9 8
      have fu9 := art_free a9 9
      have fu10 := art_free a9 10
      have fr0 := art_free r9 0
      have fr1 := art_free r9 1
      have fr2 := art_free r9 2
      have fr3 := art_free r9 3
      have fr4 := art_free r9 4
      have fr5 := art_free r9 5
      have fr6 := art_free r9 6
      have fr7 := art_free r9 7
      have fr8 := art_free r9 8
      have fr9 := art_free r9 9
      have fr10 := art_free r9 10
      have rr0 := art_cell r9 0
      have rr1 := art_cell r9 1
      have rr2 := art_cell r9 2
      have rr3 := art_cell r9 3
      have rr4 := art_cell r9 4
      have rr5 := art_cell r9 5
      have rr6 := art_cell r9 6
      have rr7 := art_cell r9 7
      have rr8 := art_cell r9 8
      have rr9 := art_cell r9 9
      have rr10 := art_cell r9 10
      simp only [Art.cells, Art.none] at u0 rr0 u1 rr1 u2 rr2 u3 rr3 u4 rr4 u5 rr5 u6 rr6 u7 rr7 u8 rr8 u9 rr9 u10 rr10
      clear a9 r9
      go_wp2_with fail
      exact mk_end (8) (cd) (ot) (⟨#[]⟩) (yr) (am) (0) (0) (0) (x) (0) (MkInv.put (a' := ⟨8, cd, ot, ⟨#[]⟩, yr, am, 0, 0, 0, x, 0⟩) (MkInv.put (a' := ⟨8, cd, ot, ⟨#[]⟩, yr, am, 0, 0, 0, 0, 0⟩) (MkInv.put (a' := ⟨8, cd, ⟨#[]⟩, ⟨#[]⟩, yr, am, 0, 0, 0, 0, 0⟩) (MkInv.put (a' := ⟨8, cd, ⟨#[]⟩, ⟨#[]⟩, yr, 0, 0, 0, 0, 0, 0⟩) (MkInv.put (a' := ⟨8, cd, ⟨#[]⟩, ⟨#[]⟩, 0, 0, 0, 0, 0, 0, 0⟩) HI8.out 1 (.string cd) rfl) 4 (.int .i64 (yr)) rfl) 5 (.int .i64 (am)) rfl) 2 (.string ot) rfl) 9 (.int .i64 (x)) rfl) (pl_reach cd ot yr am x c1 c2 (by omega) (by omega) (by omega)) rfl rfl
    · have u0 := art_cell HI7.out.art 0
      simp only [Art.cells, Art.none] at u0
      go_wp2_with fail
      refine (Range_any tb 1 20 _ HI7.out.tape (by omega) (by omega) (by omega)).mono ?_
      rintro e w8 ⟨z, rfl, z0, z1, t8, g8⟩
      have HI8 := Lib.hid (HI7.out.turn t8 g8)
      clear t8 g8 HI7 u0
      go_wp2_with fail
      refine (HN.out 101 _ HI8.out.tape (by omega) (by omega)).mono ?_
      rintro e w9 ⟨x, rfl, x0, x1, t9, g9⟩
      have HI9 := Lib.hid (HI8.out.turn t9 g9)
      clear t9 g9 HI8
      have a9 := HI9.out.art
      have r9 := HI9.out.res
      have u0 := art_cell a9 0
      have u1 := art_cell a9 1
      have u2 := art_cell a9 2
      have u3 := art_cell a9 3
      have u4 := art_cell a9 4
      have u5 := art_cell a9 5
      have u6 := art_cell a9 6
      have u7 := art_cell a9 7
      have u8 := art_cell a9 8
      have u9 := art_cell a9 9
      have u10 := art_cell a9 10
      have fu0 := art_free a9 0
      have fu1 := art_free a9 1
      have fu2 := art_free a9 2
      have fu3 := art_free a9 3
      have fu4 := art_free a9 4
      have fu5 := art_free a9 5
      have fu6 := art_free a9 6
      have fu7 := art_free a9 7
      have fu8 := art_free a9 8
      have fu9 := art_free a9 9
      have fu10 := art_free a9 10
      have fr0 := art_free r9 0
      have fr1 := art_free r9 1
      have fr2 := art_free r9 2
      have fr3 := art_free r9 3
      have fr4 := art_free r9 4
      have fr5 := art_free r9 5
      have fr6 := art_free r9 6
      have fr7 := art_free r9 7
      have fr8 := art_free r9 8
      have fr9 := art_free r9 9
      have fr10 := art_free r9 10
      have rr0 := art_cell r9 0
      have rr1 := art_cell r9 1
      have rr2 := art_cell r9 2
      have rr3 := art_cell r9 3
      have rr4 := art_cell r9 4
      have rr5 := art_cell r9 5
      have rr6 := art_cell r9 6
      have rr7 := art_cell r9 7
      have rr8 := art_cell r9 8
      have rr9 := art_cell r9 9
      have rr10 := art_cell r9 10
      simp only [Art.cells, Art.none] at u0 rr0 u1 rr1 u2 rr2 u3 rr3 u4 rr4 u5 rr5 u6 rr6 u7 rr7 u8 rr8 u9 rr9 u10 rr10
      clear a9 r9
      go_wp2_with fail
      exact mk_end (9) (cd) (ot) (⟨#[]⟩) (0) (0) (x) (z) (0) (0) (0) (MkInv.put (a' := ⟨9, cd, ot, ⟨#[]⟩, 0, 0, x, z, 0, 0, 0⟩) (MkInv.put (a' := ⟨9, cd, ot, ⟨#[]⟩, 0, 0, 0, z, 0, 0, 0⟩) (MkInv.put (a' := ⟨9, cd, ⟨#[]⟩, ⟨#[]⟩, 0, 0, 0, z, 0, 0, 0⟩) (MkInv.put (a' := ⟨9, ⟨#[]⟩, ⟨#[]⟩, ⟨#[]⟩, 0, 0, 0, z, 0, 0, 0⟩) HI9.out 7 (.int .i64 (z)) rfl) 1 (.string cd) rfl) 2 (.string ot) rfl) 6 (.int .i64 (x)) rfl) (pl_rule cd ot z x c1 c2 (by omega) (by omega)) rfl rfl
    · have u0 := art_cell HI7.out.art 0
      simp only [Art.cells, Art.none] at u0
      go_wp2_with fail
      refine (HN.out 360 _ HI7.out.tape (by omega) (by omega)).mono ?_
      rintro e w8 ⟨x, rfl, x0, x1, t8, g8⟩
      have HI8 := Lib.hid (HI7.out.turn t8 g8)
      clear t8 g8 HI7 u0
      go_wp2_with fail
      refine (Range_any tb 1 5 _ HI8.out.tape (by omega) (by omega) (by omega)).mono ?_
      rintro e w9 ⟨z, rfl, z0, z1, t9, g9⟩
      have HI9 := Lib.hid (HI8.out.turn t9 g9)
      clear t9 g9 HI8
      go_wp2_with fail
      refine (Range_any tb 1 3 _ HI9.out.tape (by omega) (by omega) (by omega)).mono ?_
      rintro e w10 ⟨q, rfl, q0, q1, t10, g10⟩
      have HI10 := Lib.hid (HI9.out.turn t10 g10)
      clear t10 g10 HI9
      have a9 := HI10.out.art
      have r9 := HI10.out.res
      have u0 := art_cell a9 0
      have u1 := art_cell a9 1
      have u2 := art_cell a9 2
      have u3 := art_cell a9 3
      have u4 := art_cell a9 4
      have u5 := art_cell a9 5
      have u6 := art_cell a9 6
      have u7 := art_cell a9 7
      have u8 := art_cell a9 8
      have u9 := art_cell a9 9
      have u10 := art_cell a9 10
      have fu0 := art_free a9 0
      have fu1 := art_free a9 1
      have fu2 := art_free a9 2
      have fu3 := art_free a9 3
      have fu4 := art_free a9 4
      have fu5 := art_free a9 5
      have fu6 := art_free a9 6
      have fu7 := art_free a9 7
      have fu8 := art_free a9 8
      have fu9 := art_free a9 9
      have fu10 := art_free a9 10
      have fr0 := art_free r9 0
      have fr1 := art_free r9 1
      have fr2 := art_free r9 2
      have fr3 := art_free r9 3
      have fr4 := art_free r9 4
      have fr5 := art_free r9 5
      have fr6 := art_free r9 6
      have fr7 := art_free r9 7
      have fr8 := art_free r9 8
      have fr9 := art_free r9 9
      have fr10 := art_free r9 10
      have rr0 := art_cell r9 0
      have rr1 := art_cell r9 1
      have rr2 := art_cell r9 2
      have rr3 := art_cell r9 3
      have rr4 := art_cell r9 4
      have rr5 := art_cell r9 5
      have rr6 := art_cell r9 6
      have rr7 := art_cell r9 7
      have rr8 := art_cell r9 8
      have rr9 := art_cell r9 9
      have rr10 := art_cell r9 10
      simp only [Art.cells, Art.none] at u0 rr0 u1 rr1 u2 rr2 u3 rr3 u4 rr4 u5 rr5 u6 rr6 u7 rr7 u8 rr8 u9 rr9 u10 rr10
      clear a9 r9
      rcases (by omega : q = 1 ∨ q = 2 ∨ q = 3) with rfl | rfl | rfl
      · have hi9 := (MkInv.put (a' := ⟨10, cd, ⟨#[]⟩, ⟨#[]⟩, sp, am, 0, z, 360 * yr + x, 0, 1⟩) (MkInv.put (a' := ⟨10, cd, ⟨#[]⟩, ⟨#[]⟩, sp, 0, 0, z, 360 * yr + x, 0, 1⟩) (MkInv.put (a' := ⟨10, cd, ⟨#[]⟩, ⟨#[]⟩, 0, 0, 0, z, 360 * yr + x, 0, 1⟩) (MkInv.put (a' := ⟨10, ⟨#[]⟩, ⟨#[]⟩, ⟨#[]⟩, 0, 0, 0, z, 360 * yr + x, 0, 1⟩) (MkInv.put (a' := ⟨10, ⟨#[]⟩, ⟨#[]⟩, ⟨#[]⟩, 0, 0, 0, z, 360 * yr + x, 0, 0⟩) (MkInv.put (a' := ⟨10, ⟨#[]⟩, ⟨#[]⟩, ⟨#[]⟩, 0, 0, 0, 0, 360 * yr + x, 0, 0⟩) HI10.out 8 (.int .i64 (360 * yr + x)) rfl) 7 (.int .i64 (z)) rfl) 10 (.int .i64 (1)) rfl) 1 (.string cd) rfl) 4 (.int .i64 (sp)) rfl) 5 (.int .i64 (am)) rfl)
        have HI9' := Lib.hid hi9
        clear hi9
        go_upto_region 9 with fail
        have hi9 := HI9'.out
        generalize ((((((w10.setCell ⟨b, 8, none⟩ (.int .i64 (360 * yr + x))).setCell ⟨b, 7, none⟩ (.int .i64 (z))).setCell ⟨b, 10, none⟩ (.int .i64 (1))).setCell ⟨b, 1, none⟩ (.string cd)).setCell ⟨b, 4, none⟩ (.int .i64 (sp))).setCell ⟨b, 5, none⟩ (.int .i64 (am))) = W9 at hi9 ⊢
        clear HI9' HI10 u0 fu0 fr0 rr0 u1 fu1 fr1 rr1 u2 fu2 fr2 rr2 u3 fu3 fr3 rr3 u4 fu4 fr4 rr4 u5 fu5 fr5 rr5 u6 fu6 fr6 rr6 u7 fu7 fr7 rr7 u8 fu8 fr8 rr8 u9 fu9 fr9 rr9 u10 fu10 fr10 rr10
        have HIs := Lib.hid hi9
        clear hi9
        have a9 := HIs.out.art
        have r9 := HIs.out.res
        have u0 := art_cell a9 0
        have u1 := art_cell a9 1
        have u2 := art_cell a9 2
        have u3 := art_cell a9 3
        have u4 := art_cell a9 4
        have u5 := art_cell a9 5
        have u6 := art_cell a9 6
        have u7 := art_cell a9 7
        have u8 := art_cell a9 8
        have u9 := art_cell a9 9
        have u10 := art_cell a9 10
        have fu0 := art_free a9 0
        have fu1 := art_free a9 1
        have fu2 := art_free a9 2
        have fu3 := art_free a9 3
        have fu4 := art_free a9 4
        have fu5 := art_free a9 5
        have fu6 := art_free a9 6
        have fu7 := art_free a9 7
        have fu8 := art_free a9 8
        have fu9 := art_free a9 9
        have fu10 := art_free a9 10
        have fr0 := art_free r9 0
        have fr1 := art_free r9 1
        have fr2 := art_free r9 2
        have fr3 := art_free r9 3
        have fr4 := art_free r9 4
        have fr5 := art_free r9 5
        have fr6 := art_free r9 6
        have fr7 := art_free r9 7
        have fr8 := art_free r9 8
        have fr9 := art_free r9 9
        have fr10 := art_free r9 10
        have rr0 := art_cell r9 0
        have rr1 := art_cell r9 1
        have rr2 := art_cell r9 2
        have rr3 := art_cell r9 3
        have rr4 := art_cell r9 4
        have rr5 := art_cell r9 5
        have rr6 := art_cell r9 6
        have rr7 := art_cell r9 7
        have rr8 := art_cell r9 8
        have rr9 := art_cell r9 9
        have rr10 := art_cell r9 10
        simp only [Art.cells, Art.none] at u0 rr0 u1 rr1 u2 rr2 u3 rr3 u4 rr4 u5 rr5 u6 rr6 u7 rr7 u8 rr8 u9 rr9 u10 rr10
        clear a9 r9
        go_wp2_with fail
        exact mk_end 10 cd (⟨#[]⟩) (⟨#[]⟩) yr am 0 z (360 * yr + x) 0 1 (MkInv.put (a' := ⟨10, cd, ⟨#[]⟩, ⟨#[]⟩, yr, am, 0, z, 360 * yr + x, 0, 1⟩) HIs.out 4 (.int .i64 yr) rfl) (pl_aline cd yr am (360 * yr + x) z c1 (by omega) (by omega) (by omega) (by omega)) rfl rfl
      · have hi2 := (MkInv.put (a' := ⟨10, cd, ⟨#[]⟩, ⟨#[]⟩, sp, am, 0, z, 360 * yr + x, 0, 2⟩) (MkInv.put (a' := ⟨10, cd, ⟨#[]⟩, ⟨#[]⟩, sp, 0, 0, z, 360 * yr + x, 0, 2⟩) (MkInv.put (a' := ⟨10, cd, ⟨#[]⟩, ⟨#[]⟩, 0, 0, 0, z, 360 * yr + x, 0, 2⟩) (MkInv.put (a' := ⟨10, ⟨#[]⟩, ⟨#[]⟩, ⟨#[]⟩, 0, 0, 0, z, 360 * yr + x, 0, 2⟩) (MkInv.put (a' := ⟨10, ⟨#[]⟩, ⟨#[]⟩, ⟨#[]⟩, 0, 0, 0, z, 360 * yr + x, 0, 0⟩) (MkInv.put (a' := ⟨10, ⟨#[]⟩, ⟨#[]⟩, ⟨#[]⟩, 0, 0, 0, 0, 360 * yr + x, 0, 0⟩) HI10.out 8 (.int .i64 (360 * yr + x)) rfl) 7 (.int .i64 (z)) rfl) 10 (.int .i64 (2)) rfl) 1 (.string cd) rfl) 4 (.int .i64 (sp)) rfl) 5 (.int .i64 (am)) rfl)
        have HI2 := Lib.hid hi2
        clear hi2
        go_wp2_with fail
        refine (HN.out 4 _ HI2.out.tape (by omega) (by omega)).mono ?_
        rintro e wn ⟨y, rfl, y0', y1', tn, gn⟩
        have HIn := Lib.hid (HI2.out.turn tn gn)
        clear tn gn HI2 u0 fu0 fr0 rr0 u1 fu1 fr1 rr1 u2 fu2 fr2 rr2 u3 fu3 fr3 rr3 u4 fu4 fr4 rr4 u5 fu5 fr5 rr5 u6 fu6 fr6 rr6 u7 fu7 fr7 rr7 u8 fu8 fr8 rr8 u9 fu9 fr9 rr9 u10 fu10 fr10 rr10
        have a9 := HIn.out.art
        have r9 := HIn.out.res
        have u0 := art_cell a9 0
        have u1 := art_cell a9 1
        have u2 := art_cell a9 2
        have u3 := art_cell a9 3
        have u4 := art_cell a9 4
        have u5 := art_cell a9 5
        have u6 := art_cell a9 6
        have u7 := art_cell a9 7
        have u8 := art_cell a9 8
        have u9 := art_cell a9 9
        have u10 := art_cell a9 10
        have fu0 := art_free a9 0
        have fu1 := art_free a9 1
        have fu2 := art_free a9 2
        have fu3 := art_free a9 3
        have fu4 := art_free a9 4
        have fu5 := art_free a9 5
        have fu6 := art_free a9 6
        have fu7 := art_free a9 7
        have fu8 := art_free a9 8
        have fu9 := art_free a9 9
        have fu10 := art_free a9 10
        have fr0 := art_free r9 0
        have fr1 := art_free r9 1
        have fr2 := art_free r9 2
        have fr3 := art_free r9 3
        have fr4 := art_free r9 4
        have fr5 := art_free r9 5
        have fr6 := art_free r9 6
        have fr7 := art_free r9 7
        have fr8 := art_free r9 8
        have fr9 := art_free r9 9
        have fr10 := art_free r9 10
        have rr0 := art_cell r9 0
        have rr1 := art_cell r9 1
        have rr2 := art_cell r9 2
        have rr3 := art_cell r9 3
        have rr4 := art_cell r9 4
        have rr5 := art_cell r9 5
        have rr6 := art_cell r9 6
        have rr7 := art_cell r9 7
        have rr8 := art_cell r9 8
        have rr9 := art_cell r9 9
        have rr10 := art_cell r9 10
        simp only [Art.cells, Art.none] at u0 rr0 u1 rr1 u2 rr2 u3 rr3 u4 rr4 u5 rr5 u6 rr6 u7 rr7 u8 rr8 u9 rr9 u10 rr10
        clear a9 r9
        by_cases hy0 : y = 0
        · subst hy0
          go_wp2_with fail
          exact mk_end 10 cd (⟨#[]⟩) (⟨#[]⟩) sp (-1) 0 z (360 * yr + x) 0 2 (MkInv.put (a' := ⟨10, cd, ⟨#[]⟩, ⟨#[]⟩, sp, -1, 0, z, 360 * yr + x, 0, 2⟩) HIn.out 5 (.int .i64 (-1)) rfl) (pl_aceiling cd sp (-1) (360 * yr + x) z c1 (by omega) (by omega) (by omega) (by omega)) rfl rfl
        · have hyb : (y == 0) = false := by rw [beq_eq_false_iff_ne]; exact hy0
          go_wp2_with fail
          exact mk_end 10 cd (⟨#[]⟩) (⟨#[]⟩) sp am 0 z (360 * yr + x) 0 2 HIn.out (pl_aceiling cd sp am (360 * yr + x) z c1 (by omega) (by omega) (by omega) (by omega)) rfl rfl
      · go_wp2_with fail
        exact mk_end (10) (cd) (⟨#[]⟩) (⟨#[]⟩) (sp) (am) (0) (z) (360 * yr + x) (0) (3) (MkInv.put (a' := ⟨10, cd, ⟨#[]⟩, ⟨#[]⟩, sp, am, 0, z, 360 * yr + x, 0, 3⟩) (MkInv.put (a' := ⟨10, cd, ⟨#[]⟩, ⟨#[]⟩, sp, 0, 0, z, 360 * yr + x, 0, 3⟩) (MkInv.put (a' := ⟨10, cd, ⟨#[]⟩, ⟨#[]⟩, 0, 0, 0, z, 360 * yr + x, 0, 3⟩) (MkInv.put (a' := ⟨10, ⟨#[]⟩, ⟨#[]⟩, ⟨#[]⟩, 0, 0, 0, z, 360 * yr + x, 0, 3⟩) (MkInv.put (a' := ⟨10, ⟨#[]⟩, ⟨#[]⟩, ⟨#[]⟩, 0, 0, 0, z, 360 * yr + x, 0, 0⟩) (MkInv.put (a' := ⟨10, ⟨#[]⟩, ⟨#[]⟩, ⟨#[]⟩, 0, 0, 0, 0, 360 * yr + x, 0, 0⟩) HI10.out 8 (.int .i64 (360 * yr + x)) rfl) 7 (.int .i64 (z)) rfl) 10 (.int .i64 (3)) rfl) 1 (.string cd) rfl) 4 (.int .i64 (sp)) rfl) 5 (.int .i64 (am)) rfl) (pl_afloor cd sp am (360 * yr + x) z c1 (by omega) (by omega) (by omega) (by omega)) rfl rfl

end Go.Proofs.YtdgckdmgplpobaaGreatDoor
