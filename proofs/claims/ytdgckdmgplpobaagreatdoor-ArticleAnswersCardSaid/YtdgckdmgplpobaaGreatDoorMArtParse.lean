/- The contract of article.Parse: the article with a text, ErrSyntax for any other text; for texts of up to 10^6 bytes. -/
import Derived.Test.YtdgckdmgplpobaaGreatDoorMArtRead
set_option linter.unusedSimpArgs false
set_option linter.unusedVariables false
namespace Go.Proofs.YtdgckdmgplpobaaGreatDoor
open Go.RowKit Go.Lib Go.Proofs

def ParseP (w : World) (r : Option Art) (e : Ending) (w' : World) : Prop :=
  (match r with
    | some a => e = .returned (.tuple #[.agg a.cells, .int .i64 0])
    | none => e = .returned (.tuple #[.agg Art.none.cells, .int .i64 4])) ∧ Below w.heap.size w w'

structure PaInv (w W : World) : Prop where
  res : ArtAt W w.heap.size Art.none
  row : ∀ j, W.cell? ⟨w.heap.size + 1, j, none⟩ = (cellsF formsL)[j]?
  old : Below w.heap.size w W
  top : w.heap.size + 1 < W.heap.size

theorem PaInv.below {w A B : World} (h : PaInv w A) (hb : Below A.heap.size A B) : PaInv w B := by
  have ht := h.top
  exact ⟨(hb.block _ (by omega)).trans h.res, fun j => (hb.cell (p := ⟨w.heap.size + 1, j, none⟩) ht).trans (h.row j), h.old.trans (hb.mono h.old.size), Nat.lt_of_lt_of_le ht hb.size⟩

theorem painv_new (w : World) : PaInv w (formsWorld (w.alloc (.cells Art.none.cells 24))) := by
  have e1 : (w.alloc (.cells Art.none.cells 24)).heap.size = w.heap.size + 1 := by simp
  unfold formsWorld
  refine ⟨?_, fun j => ?_, ((Below.refl _ _).alloc (Nat.le_refl _) _).alloc (by simp) _, by simp⟩
  · exact (Below.heap_alloc _ _ _ (by simp)).trans (heap_alloc_new w _)
  · have := heap_alloc_new (w.alloc (.cells Art.none.cells 24)) (.cells (cellsF formsL).toArray 60)
    rw [e1] at this
    rw [cell_of_row _ _ _ _ _ _ this]
    simp

theorem parseA_none {t : ByteArray} (h : ∀ f ∈ formsL, readOf f t = none) : parseA t = none := by
  unfold parseA
  rw [List.findSome?_eq_none_iff]
  exact h
theorem parseA_some {t : ByteArray} {k : Nat} {a : Art} (hk : k < formsL.length) (h : ∀ f ∈ formsL.take k, readOf f t = none) (h2 : readOf formsL[k] t = some a) : parseA t = some a := by
  unfold parseA
  rw [← List.take_append_drop k formsL, List.findSome?_append, List.findSome?_eq_none_iff.2 h, List.drop_eq_getElem_cons hk, List.findSome?_cons, h2]
  rfl

set_option maxRecDepth 100000 in
set_option maxHeartbeats 8000000 in
theorem arParse_any (t : ByteArray) (w : World) (hL : Lay w) (hs : t.size ≤ 1000000) :
    Calls Tryz.prog 18 #[.string t] w (ParseP w (parseA t)) := by
  obtain ⟨r, hr⟩ : ∃ r, r = parseA t := ⟨_, rfl⟩
  rw [← hr]
  have HR := Lib.hid hr
  have HI0 := Lib.hid (painv_new w)
  have HF := Lib.hid (fun W => forms_any W)
  have HLEN := Lib.hid (show formsL.length = 12 from rfl)
  have HL := Lib.hid hL
  have HREAD := Lib.hid (fun f hf W hW => read_any f hf t W hW hs)
  clear hr hL
  go_enter Tryz.func18, Tryz.ntmps18
  go_wp2_with fail
  refine (HF.out _).mono ?_
  rintro e w' ⟨rfl, rfl⟩
  obtain ⟨W3, hW3⟩ : ∃ W3, W3 = formsWorld (w.alloc (.cells #[.int .i64 0, .string ⟨#[]⟩, .string ⟨#[]⟩, .string ⟨#[]⟩, .int .i64 0, .int .i64 0, .int .i64 0, .int .i64 0, .int .i64 0, .int .i64 0, .int .i64 0] 24)) := ⟨_, rfl⟩
  have HI3 : Hid (PaInv w W3) := Lib.hid (by rw [hW3]; exact HI0.out)
  rw [← hW3]
  clear hW3 HI0
  go_wp2_with fail
  go_loopw [10] (fun i wr => ∃ k : Nat, i = .int .i64 k ∧ k ≤ 12 ∧ Hid (∀ f ∈ formsL.take k, readOf f t = none) ∧ Hid (PaInv w wr)) (fun i _ => 12 - (RowKit.intOf i).toNat)
  case atStart => exact ⟨0, rfl, by omega, Lib.hid (by simp), HI3⟩
  case round =>
    obtain ⟨k, rfl, hk12, HNO, HI⟩ := hrel
    by_cases hlt : k < 12
    · have hkl : k < formsL.length := by rw [HLEN.out]; exact hlt
      obtain ⟨g1, g2, g3⟩ := cellsF_get formsL k hkl
      have c1 := (HI.out.row (k * 3)).trans g1
      have c2 := (HI.out.row (k * 3 + 1)).trans g2
      have c3 := (HI.out.row (k * 3 + 2)).trans g3
      have hlay : ∀ o, Lay (wr.alloc o) := fun o => HL.out.below (HI.out.old.alloc HI.out.old.size o) (Nat.le_refl _)
      have hcall := fun o => HREAD.out formsL[k] (List.getElem_mem hkl) (wr.alloc o) (hlay o)
      have hstep : readOf formsL[k] t = none → ∀ f ∈ formsL.take (k + 1), readOf f t = none := fun h f hf => by
        rw [List.take_succ_eq_append_getElem hkl] at hf
        rcases List.mem_append.1 hf with hf | hf
        · exact HNO.out f hf
        · rw [List.mem_singleton.1 hf]; exact h
      have hhit : ∀ a, readOf formsL[k] t = some a → r = some a := fun a h => HR.out.trans (parseA_some hkl HNO.out h)
      obtain ⟨f, hf⟩ : ∃ f, f = formsL[k] := ⟨_, rfl⟩
      rw [← hf] at c1 c2 c3 hcall hstep hhit
      obtain ⟨x, hx⟩ : ∃ x, x = readOf f t := ⟨_, rfl⟩
      rw [← hx] at hcall hstep hhit
      generalize f.kind = fk at *
      generalize f.what = fw at *
      generalize f.text = ft at *
      have HCALL := Lib.hid hcall
      have htop := HI.out.top
      clear g1 g2 g3 hf hx hlay hcall
      cases x with
      | none =>
        have HST := Lib.hid (hstep rfl)
        clear hstep hhit
        go_wp2_with fail
        refine (HCALL.out _).mono ?_
        rintro e w2 ⟨rfl, hb⟩
        have HB := Lib.hid ((below_alloc wr (.cells #[.int .i64 fk, .int .i64 fw, .string ft] 60)).trans (hb.mono (below_alloc wr _).size))
        have hlt2 : wr.heap.size < w2.heap.size := by have := hb.size; simp at this; omega
        simp only [Art.cells, Art.none]
        clear hb
        go_wp2_with fail
        have HIN := Lib.hid (HI.out.below (HB.out.alloc HB.out.size (.cells #[.int .i64 0, .string ⟨#[]⟩, .string ⟨#[]⟩, .string ⟨#[]⟩, .int .i64 0, .int .i64 0, .int .i64 0, .int .i64 0, .int .i64 0, .int .i64 0, .int .i64 0] 24)))
        go_roundw
        case rel => exact ⟨k + 1, by first | rfl | go_num, by omega, HST, HIN⟩
        case measure => simp [RowKit.intOf]; omega
      | some a =>
        have HH := Lib.hid (hhit a rfl)
        clear hstep hhit
        obtain ⟨kd, cd, ot, nm, yr, am, pc, nu, dy, ls, wh⟩ := a
        go_wp2_with fail
        refine (HCALL.out _).mono ?_
        rintro e w2 ⟨rfl, hb⟩
        have hB := (below_alloc wr (.cells #[.int .i64 fk, .int .i64 fw, .string ft] 60)).trans (hb.mono (below_alloc wr _).size)
        have HIN := Lib.hid (HI.out.below (hB.alloc hB.size (.cells #[.int .i64 kd, .string cd, .string ot, .string nm, .int .i64 yr, .int .i64 am, .int .i64 pc, .int .i64 nu, .int .i64 dy, .int .i64 ls, .int .i64 wh] 24)))
        simp only [Art.cells]
        have r0 := art_cell HIN.out.res 0
        have fr0 := art_free HIN.out.res 0
        simp only [Art.cells, Art.none] at r0
        have r1 := art_cell HIN.out.res 1
        have fr1 := art_free HIN.out.res 1
        simp only [Art.cells, Art.none] at r1
        have r2 := art_cell HIN.out.res 2
        have fr2 := art_free HIN.out.res 2
        simp only [Art.cells, Art.none] at r2
        have r3 := art_cell HIN.out.res 3
        have fr3 := art_free HIN.out.res 3
        simp only [Art.cells, Art.none] at r3
        have r4 := art_cell HIN.out.res 4
        have fr4 := art_free HIN.out.res 4
        simp only [Art.cells, Art.none] at r4
        have r5 := art_cell HIN.out.res 5
        have fr5 := art_free HIN.out.res 5
        simp only [Art.cells, Art.none] at r5
        have r6 := art_cell HIN.out.res 6
        have fr6 := art_free HIN.out.res 6
        simp only [Art.cells, Art.none] at r6
        have r7 := art_cell HIN.out.res 7
        have fr7 := art_free HIN.out.res 7
        simp only [Art.cells, Art.none] at r7
        have r8 := art_cell HIN.out.res 8
        have fr8 := art_free HIN.out.res 8
        simp only [Art.cells, Art.none] at r8
        have r9 := art_cell HIN.out.res 9
        have fr9 := art_free HIN.out.res 9
        simp only [Art.cells, Art.none] at r9
        have r10 := art_cell HIN.out.res 10
        have fr10 := art_free HIN.out.res 10
        simp only [Art.cells, Art.none] at r10
        clear hb hB
        go_wp2_with fail
        have hF := putArt_at HIN.out.res kd cd ot nm yr am pc nu dy ls wh
        have hbel := putArt_below kd cd ot nm yr am pc nu dy ls wh HIN.out.old (Nat.le_refl _)
        unfold putArt at hF hbel
        generalize ((((((((((((w2.alloc (.cells #[.int .i64 kd, .string cd, .string ot, .string nm, .int .i64 yr, .int .i64 am, .int .i64 pc, .int .i64 nu, .int .i64 dy, .int .i64 ls, .int .i64 wh] 24)).setCell ⟨w.heap.size, 0, none⟩ (.int .i64 kd)).setCell ⟨w.heap.size, 1, none⟩ (.string cd)).setCell ⟨w.heap.size, 2, none⟩ (.string ot)).setCell ⟨w.heap.size, 3, none⟩ (.string nm)).setCell ⟨w.heap.size, 4, none⟩ (.int .i64 yr)).setCell ⟨w.heap.size, 5, none⟩ (.int .i64 am)).setCell ⟨w.heap.size, 6, none⟩ (.int .i64 pc)).setCell ⟨w.heap.size, 7, none⟩ (.int .i64 nu)).setCell ⟨w.heap.size, 8, none⟩ (.int .i64 dy)).setCell ⟨w.heap.size, 9, none⟩ (.int .i64 ls)).setCell ⟨w.heap.size, 10, none⟩ (.int .i64 wh)) = F at hF hbel ⊢
        have q0 := art_cell hF 0
        simp only [Art.cells] at q0
        have q1 := art_cell hF 1
        simp only [Art.cells] at q1
        have q2 := art_cell hF 2
        simp only [Art.cells] at q2
        have q3 := art_cell hF 3
        simp only [Art.cells] at q3
        have q4 := art_cell hF 4
        simp only [Art.cells] at q4
        have q5 := art_cell hF 5
        simp only [Art.cells] at q5
        have q6 := art_cell hF 6
        simp only [Art.cells] at q6
        have q7 := art_cell hF 7
        simp only [Art.cells] at q7
        have q8 := art_cell hF 8
        simp only [Art.cells] at q8
        have q9 := art_cell hF 9
        simp only [Art.cells] at q9
        have q10 := art_cell hF 10
        simp only [Art.cells] at q10
        refine bodyPost_ret (v := .tuple #[.agg #[.int .i64 kd, .string cd, .string ot, .string nm, .int .i64 yr, .int .i64 am, .int .i64 pc, .int .i64 nu, .int .i64 dy, .int .i64 ls, .int .i64 wh], .int .i64 0]) (by simp [results, Tryz.results18, go_sem, q0, q1, q2, q3, q4, q5, q6, q7, q8, q9, q10]) rfl ⟨?_, hbel⟩
        rw [HH.out]
        rfl
    · obtain rfl : k = 12 := by omega
      have hno : r = none := HR.out.trans (parseA_none (by have := HNO.out; rwa [List.take_of_length_le (by rw [HLEN.out]; omega)] at this))
      have HNN := Lib.hid hno
      have r0 := art_cell HI.out.res 0
      have fr0 := art_free HI.out.res 0
      simp only [Art.cells, Art.none] at r0
      have r1 := art_cell HI.out.res 1
      have fr1 := art_free HI.out.res 1
      simp only [Art.cells, Art.none] at r1
      have r2 := art_cell HI.out.res 2
      have fr2 := art_free HI.out.res 2
      simp only [Art.cells, Art.none] at r2
      have r3 := art_cell HI.out.res 3
      have fr3 := art_free HI.out.res 3
      simp only [Art.cells, Art.none] at r3
      have r4 := art_cell HI.out.res 4
      have fr4 := art_free HI.out.res 4
      simp only [Art.cells, Art.none] at r4
      have r5 := art_cell HI.out.res 5
      have fr5 := art_free HI.out.res 5
      simp only [Art.cells, Art.none] at r5
      have r6 := art_cell HI.out.res 6
      have fr6 := art_free HI.out.res 6
      simp only [Art.cells, Art.none] at r6
      have r7 := art_cell HI.out.res 7
      have fr7 := art_free HI.out.res 7
      simp only [Art.cells, Art.none] at r7
      have r8 := art_cell HI.out.res 8
      have fr8 := art_free HI.out.res 8
      simp only [Art.cells, Art.none] at r8
      have r9 := art_cell HI.out.res 9
      have fr9 := art_free HI.out.res 9
      simp only [Art.cells, Art.none] at r9
      have r10 := art_cell HI.out.res 10
      have fr10 := art_free HI.out.res 10
      simp only [Art.cells, Art.none] at r10
      clear hno
      go_wp2_with fail
      have hF := putArt_at HI.out.res 0 ⟨#[]⟩ ⟨#[]⟩ ⟨#[]⟩ 0 0 0 0 0 0 0
      have hbel := putArt_below 0 ⟨#[]⟩ ⟨#[]⟩ ⟨#[]⟩ 0 0 0 0 0 0 0 HI.out.old (Nat.le_refl _)
      unfold putArt at hF hbel
      generalize (((((((((((wr.setCell ⟨w.heap.size, 0, none⟩ (.int .i64 0)).setCell ⟨w.heap.size, 1, none⟩ (.string ⟨#[]⟩)).setCell ⟨w.heap.size, 2, none⟩ (.string ⟨#[]⟩)).setCell ⟨w.heap.size, 3, none⟩ (.string ⟨#[]⟩)).setCell ⟨w.heap.size, 4, none⟩ (.int .i64 0)).setCell ⟨w.heap.size, 5, none⟩ (.int .i64 0)).setCell ⟨w.heap.size, 6, none⟩ (.int .i64 0)).setCell ⟨w.heap.size, 7, none⟩ (.int .i64 0)).setCell ⟨w.heap.size, 8, none⟩ (.int .i64 0)).setCell ⟨w.heap.size, 9, none⟩ (.int .i64 0)).setCell ⟨w.heap.size, 10, none⟩ (.int .i64 0)) = F at hF hbel ⊢
      have q0 := art_cell hF 0
      simp only [Art.cells] at q0
      have q1 := art_cell hF 1
      simp only [Art.cells] at q1
      have q2 := art_cell hF 2
      simp only [Art.cells] at q2
      have q3 := art_cell hF 3
      simp only [Art.cells] at q3
      have q4 := art_cell hF 4
      simp only [Art.cells] at q4
      have q5 := art_cell hF 5
      simp only [Art.cells] at q5
      have q6 := art_cell hF 6
      simp only [Art.cells] at q6
      have q7 := art_cell hF 7
      simp only [Art.cells] at q7
      have q8 := art_cell hF 8
      simp only [Art.cells] at q8
      have q9 := art_cell hF 9
      simp only [Art.cells] at q9
      have q10 := art_cell hF 10
      simp only [Art.cells] at q10
      refine bodyPost_ret (v := .tuple #[.agg #[.int .i64 0, .string ⟨#[]⟩, .string ⟨#[]⟩, .string ⟨#[]⟩, .int .i64 0, .int .i64 0, .int .i64 0, .int .i64 0, .int .i64 0, .int .i64 0, .int .i64 0], .int .i64 4]) (by simp [results, Tryz.results18, go_sem, q0, q1, q2, q3, q4, q5, q6, q7, q8, q9, q10]) rfl ⟨?_, hbel⟩
      rw [HNN.out]
      rfl

end Go.Proofs.YtdgckdmgplpobaaGreatDoor
