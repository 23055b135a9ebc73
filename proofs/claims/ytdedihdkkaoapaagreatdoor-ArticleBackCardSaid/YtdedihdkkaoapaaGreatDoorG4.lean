/- Texts of one claim, merged: ArtParse, ArtAw, ArtOW, ArtWs, Rart, RartB. -/
import Derived.Test.YtdedihdkkaoapaaGreatDoorArtRead
import Derived.Test.YtdedihdkkaoapaaGreatDoorG3
import Derived.Test.YtdedihdkkaoapaaGreatDoorG2
import Derived.Test.YtdedihdkkaoapaaGreatDoorMkArt
import Derived.Test.YtdedihdkkaoapaaGreatDoorMkInv
/- The contract of article.Parse: the article with a text, ErrSyntax for any other text; for texts of up to 10^6 bytes. -/
namespace Go.Proofs.YtdedihdkkaoapaaGreatDoor
open Go.RowKit Go.Lib Go.Proofs

/-- What Parse hands back. -/
def ParseP (w : World) (r : Option Art) (e : Ending) (w' : World) : Prop :=
  (match r with
    | some a => e = .returned (.tuple #[.agg a.cells, .int .i64 0])
    | none => e = .returned (.tuple #[.agg Art.none.cells, .int .i64 4])) ∧ Below w.heap.size w w'

/-- The worlds of Parse's loop: the result's place, the forms. -/
structure PaInv (w W : World) : Prop where
  res : ArtAt W w.heap.size Art.none
  row : ∀ j, W.cell? ⟨w.heap.size + 1, j, none⟩ = (cellsF formsL)[j]?
  old : Below w.heap.size w W
  top : w.heap.size + 1 < W.heap.size

theorem PaInv.below {w A B : World} (h : PaInv w A) (hb : Below A.heap.size A B) : PaInv w B := by
  have ht := h.top
  exact ⟨(hb.block _ (by omega)).trans h.res, fun j => (hb.cell (p := ⟨w.heap.size + 1, j, none⟩) ht).trans (h.row j), h.old.trans (hb.mono h.old.size), Nat.lt_of_lt_of_le ht hb.size⟩

theorem painv_new (w : World) : PaInv w (formsWorld (w.alloc (.cells Art.none.cells 24))) := by
  have e1 : (w.alloc (.cells Art.none.cells 24)).heap.size = w.heap.size + 1 := by simp
  unfold formsWorld
  refine ⟨?_, fun j => ?_, ((Below.refl _ _).alloc (Nat.le_refl _) _).alloc (by simp) _, by simp⟩
  · exact (Below.heap_alloc _ _ _ (by simp)).trans (heap_alloc_new w _)
  · have := heap_alloc_new (w.alloc (.cells Art.none.cells 24)) (.cells (cellsF formsL).toArray 61)
    rw [e1] at this
    rw [cell_of_row _ _ _ _ _ _ this]
    simp

theorem parseA_none {t : ByteArray} (h : ∀ f ∈ formsL, readOf f t = none) : parseA t = none := by
  unfold parseA
  rw [List.findSome?_eq_none_iff]
  exact h
theorem parseA_some {t : ByteArray} {k : Nat} {a : Art} (hk : k < formsL.length) (h : ∀ f ∈ formsL.take k, readOf f t = none) (h2 : readOf formsL[k] t = some a) : parseA t = some a := by
  unfold parseA
  rw [← List.take_append_drop k formsL, List.findSome?_append, List.findSome?_eq_none_iff.2 h, List.drop_eq_getElem_cons hk, List.findSome?_cons, h2]
  rfl

set_option maxRecDepth 100000 in
set_option maxHeartbeats 8000000 in
theorem arParse_any (t : ByteArray) (w : World) (hL : Lay w) (hs : t.size ≤ 1000000) :
    Calls Tryz.prog 19 #[.string t] w (ParseP w (parseA t)) := by
  obtain ⟨r, hr⟩ : ∃ r, r = parseA t := ⟨_, rfl⟩
  rw [← hr]
  have HR := Lib.hid hr
  have HI0 := Lib.hid (painv_new w)
  have HF := Lib.hid (fun W => forms_any W)
  have HLEN := Lib.hid (show formsL.length = 12 from rfl)
  have HL := Lib.hid hL
  have HREAD := Lib.hid (fun f hf W hW => read_any f hf t W hW hs)
  clear hr hL
  go_enter Tryz.func19, Tryz.ntmps19
  go_wp2_with fail
  refine (HF.out _).mono ?_
  rintro e w' ⟨rfl, rfl⟩
  obtain ⟨W3, hW3⟩ : ∃ W3, W3 = formsWorld (w.alloc (.cells #[.int .i64 0, .string ⟨#[]⟩, .string ⟨#[]⟩, .string ⟨#[]⟩, .int .i64 0, .int .i64 0, .int .i64 0, .int .i64 0, .int .i64 0, .int .i64 0, .int .i64 0] 24)) := ⟨_, rfl⟩
  have HI3 : Hid (PaInv w W3) := Lib.hid (by rw [hW3]; exact HI0.out)
  rw [← hW3]
  clear hW3 HI0
  go_wp2_with fail
  go_loopw [10] (fun i wr => ∃ k : Nat, i = .int .i64 k ∧ k ≤ 12 ∧ Hid (∀ f ∈ formsL.take k, readOf f t = none) ∧ Hid (PaInv w wr)) (fun i _ => 12 - (RowKit.intOf i).toNat)
  case atStart => exact ⟨0, rfl, by omega, Lib.hid (by simp), HI3⟩
  case round =>
    obtain ⟨k, rfl, hk12, HNO, HI⟩ := hrel
    by_cases hlt : k < 12
    · have hkl : k < formsL.length := by rw [HLEN.out]; exact hlt
      obtain ⟨g1, g2, g3⟩ := cellsF_get formsL k hkl
      have c1 := (HI.out.row (k * 3)).trans g1
      have c2 := (HI.out.row (k * 3 + 1)).trans g2
      have c3 := (HI.out.row (k * 3 + 2)).trans g3
      have hlay : ∀ o, Lay (wr.alloc o) := fun o => HL.out.below (HI.out.old.alloc HI.out.old.size o) (Nat.le_refl _)
      have hcall := fun o => HREAD.out formsL[k] (List.getElem_mem hkl) (wr.alloc o) (hlay o)
      have hstep : readOf formsL[k] t = none → ∀ f ∈ formsL.take (k + 1), readOf f t = none := fun h f hf => by
        rw [List.take_succ_eq_append_getElem hkl] at hf
        rcases List.mem_append.1 hf with hf | hf
        · exact HNO.out f hf
        · rw [List.mem_singleton.1 hf]; exact h
      have hhit : ∀ a, readOf formsL[k] t = some a → r = some a := fun a h => HR.out.trans (parseA_some hkl HNO.out h)
      obtain ⟨f, hf⟩ : ∃ f, f = formsL[k] := ⟨_, rfl⟩
      rw [← hf] at c1 c2 c3 hcall hstep hhit
      obtain ⟨x, hx⟩ : ∃ x, x = readOf f t := ⟨_, rfl⟩
      rw [← hx] at hcall hstep hhit
      generalize f.kind = fk at *
      generalize f.what = fw at *
      generalize f.text = ft at *
      have HCALL := Lib.hid hcall
      have htop := HI.out.top
      clear g1 g2 g3 hf hx hlay hcall
      cases x with
      | none =>
        have HST := Lib.hid (hstep rfl)
        clear hstep hhit
        go_wp2_with fail
        refine (HCALL.out _).mono ?_
        rintro e w2 ⟨rfl, hb⟩
        have HB := Lib.hid ((below_alloc wr (.cells #[.int .i64 fk, .int .i64 fw, .string ft] 61)).trans (hb.mono (below_alloc wr _).size))
        have hlt2 : wr.heap.size < w2.heap.size := by have := hb.size; simp at this; omega
        simp only [Art.cells, Art.none]
        clear hb
        go_wp2_with fail
        have HIN := Lib.hid (HI.out.below (HB.out.alloc HB.out.size (.cells #[.int .i64 0, .string ⟨#[]⟩, .string ⟨#[]⟩, .string ⟨#[]⟩, .int .i64 0, .int .i64 0, .int .i64 0, .int .i64 0, .int .i64 0, .int .i64 0, .int .i64 0] 24)))
        go_roundw
        case rel => exact ⟨k + 1, by first | rfl | go_num, by omega, HST, HIN⟩
        case measure => simp [RowKit.intOf]; omega
      | some a =>
        have HH := Lib.hid (hhit a rfl)
        clear hstep hhit
        obtain ⟨kd, cd, ot, nm, yr, am, pc, nu, dy, ls, wh⟩ := a
        go_wp2_with fail
        refine (HCALL.out _).mono ?_
        rintro e w2 ⟨rfl, hb⟩
        have hB := (below_alloc wr (.cells #[.int .i64 fk, .int .i64 fw, .string ft] 61)).trans (hb.mono (below_alloc wr _).size)
        have HIN := Lib.hid (HI.out.below (hB.alloc hB.size (.cells #[.int .i64 kd, .string cd, .string ot, .string nm, .int .i64 yr, .int .i64 am, .int .i64 pc, .int .i64 nu, .int .i64 dy, .int .i64 ls, .int .i64 wh] 24)))
        simp only [Art.cells]
        have r0 := art_cell HIN.out.res 0
        have fr0 := art_free HIN.out.res 0
        simp only [Art.cells, Art.none] at r0
        have r1 := art_cell HIN.out.res 1
        have fr1 := art_free HIN.out.res 1
        simp only [Art.cells, Art.none] at r1
        have r2 := art_cell HIN.out.res 2
        have fr2 := art_free HIN.out.res 2
        simp only [Art.cells, Art.none] at r2
        have r3 := art_cell HIN.out.res 3
        have fr3 := art_free HIN.out.res 3
        simp only [Art.cells, Art.none] at r3
        have r4 := art_cell HIN.out.res 4
        have fr4 := art_free HIN.out.res 4
        simp only [Art.cells, Art.none] at r4
        have r5 := art_cell HIN.out.res 5
        have fr5 := art_free HIN.out.res 5
        simp only [Art.cells, Art.none] at r5
        have r6 := art_cell HIN.out.res 6
        have fr6 := art_free HIN.out.res 6
        simp only [Art.cells, Art.none] at r6
        have r7 := art_cell HIN.out.res 7
        have fr7 := art_free HIN.out.res 7
        simp only [Art.cells, Art.none] at r7
        have r8 := art_cell HIN.out.res 8
        have fr8 := art_free HIN.out.res 8
        simp only [Art.cells, Art.none] at r8
        have r9 := art_cell HIN.out.res 9
        have fr9 := art_free HIN.out.res 9
        simp only [Art.cells, Art.none] at r9
        have r10 := art_cell HIN.out.res 10
        have fr10 := art_free HIN.out.res 10
        simp only [Art.cells, Art.none] at r10
        clear hb hB
        go_wp2_with fail
        have hF := putArt_at HIN.out.res kd cd ot nm yr am pc nu dy ls wh
        have hbel := putArt_below kd cd ot nm yr am pc nu dy ls wh HIN.out.old (Nat.le_refl _)
        unfold putArt at hF hbel
        generalize ((((((((((((w2.alloc (.cells #[.int .i64 kd, .string cd, .string ot, .string nm, .int .i64 yr, .int .i64 am, .int .i64 pc, .int .i64 nu, .int .i64 dy, .int .i64 ls, .int .i64 wh] 24)).setCell ⟨w.heap.size, 0, none⟩ (.int .i64 kd)).setCell ⟨w.heap.size, 1, none⟩ (.string cd)).setCell ⟨w.heap.size, 2, none⟩ (.string ot)).setCell ⟨w.heap.size, 3, none⟩ (.string nm)).setCell ⟨w.heap.size, 4, none⟩ (.int .i64 yr)).setCell ⟨w.heap.size, 5, none⟩ (.int .i64 am)).setCell ⟨w.heap.size, 6, none⟩ (.int .i64 pc)).setCell ⟨w.heap.size, 7, none⟩ (.int .i64 nu)).setCell ⟨w.heap.size, 8, none⟩ (.int .i64 dy)).setCell ⟨w.heap.size, 9, none⟩ (.int .i64 ls)).setCell ⟨w.heap.size, 10, none⟩ (.int .i64 wh)) = F at hF hbel ⊢
        have q0 := art_cell hF 0
        simp only [Art.cells] at q0
        have q1 := art_cell hF 1
        simp only [Art.cells] at q1
        have q2 := art_cell hF 2
        simp only [Art.cells] at q2
        have q3 := art_cell hF 3
        simp only [Art.cells] at q3
        have q4 := art_cell hF 4
        simp only [Art.cells] at q4
        have q5 := art_cell hF 5
        simp only [Art.cells] at q5
        have q6 := art_cell hF 6
        simp only [Art.cells] at q6
        have q7 := art_cell hF 7
        simp only [Art.cells] at q7
        have q8 := art_cell hF 8
        simp only [Art.cells] at q8
        have q9 := art_cell hF 9
        simp only [Art.cells] at q9
        have q10 := art_cell hF 10
        simp only [Art.cells] at q10
        refine bodyPost_ret (v := .tuple #[.agg #[.int .i64 kd, .string cd, .string ot, .string nm, .int .i64 yr, .int .i64 am, .int .i64 pc, .int .i64 nu, .int .i64 dy, .int .i64 ls, .int .i64 wh], .int .i64 0]) (by simp [results, Tryz.results19, go_sem, q0, q1, q2, q3, q4, q5, q6, q7, q8, q9, q10]) rfl ⟨?_, hbel⟩
        rw [HH.out]
        rfl
    · obtain rfl : k = 12 := by omega
      have hno : r = none := HR.out.trans (parseA_none (by have := HNO.out; rwa [List.take_of_length_le (by rw [HLEN.out]; omega)] at this))
      have HNN := Lib.hid hno
      have r0 := art_cell HI.out.res 0
      have fr0 := art_free HI.out.res 0
      simp only [Art.cells, Art.none] at r0
      have r1 := art_cell HI.out.res 1
      have fr1 := art_free HI.out.res 1
      simp only [Art.cells, Art.none] at r1
      have r2 := art_cell HI.out.res 2
      have fr2 := art_free HI.out.res 2
      simp only [Art.cells, Art.none] at r2
      have r3 := art_cell HI.out.res 3
      have fr3 := art_free HI.out.res 3
      simp only [Art.cells, Art.none] at r3
      have r4 := art_cell HI.out.res 4
      have fr4 := art_free HI.out.res 4
      simp only [Art.cells, Art.none] at r4
      have r5 := art_cell HI.out.res 5
      have fr5 := art_free HI.out.res 5
      simp only [Art.cells, Art.none] at r5
      have r6 := art_cell HI.out.res 6
      have fr6 := art_free HI.out.res 6
      simp only [Art.cells, Art.none] at r6
      have r7 := art_cell HI.out.res 7
      have fr7 := art_free HI.out.res 7
      simp only [Art.cells, Art.none] at r7
      have r8 := art_cell HI.out.res 8
      have fr8 := art_free HI.out.res 8
      simp only [Art.cells, Art.none] at r8
      have r9 := art_cell HI.out.res 9
      have fr9 := art_free HI.out.res 9
      simp only [Art.cells, Art.none] at r9
      have r10 := art_cell HI.out.res 10
      have fr10 := art_free HI.out.res 10
      simp only [Art.cells, Art.none] at r10
      clear hno
      go_wp2_with fail
      have hF := putArt_at HI.out.res 0 ⟨#[]⟩ ⟨#[]⟩ ⟨#[]⟩ 0 0 0 0 0 0 0
      have hbel := putArt_below 0 ⟨#[]⟩ ⟨#[]⟩ ⟨#[]⟩ 0 0 0 0 0 0 0 HI.out.old (Nat.le_refl _)
      unfold putArt at hF hbel
      generalize (((((((((((wr.setCell ⟨w.heap.size, 0, none⟩ (.int .i64 0)).setCell ⟨w.heap.size, 1, none⟩ (.string ⟨#[]⟩)).setCell ⟨w.heap.size, 2, none⟩ (.string ⟨#[]⟩)).setCell ⟨w.heap.size, 3, none⟩ (.string ⟨#[]⟩)).setCell ⟨w.heap.size, 4, none⟩ (.int .i64 0)).setCell ⟨w.heap.size, 5, none⟩ (.int .i64 0)).setCell ⟨w.heap.size, 6, none⟩ (.int .i64 0)).setCell ⟨w.heap.size, 7, none⟩ (.int .i64 0)).setCell ⟨w.heap.size, 8, none⟩ (.int .i64 0)).setCell ⟨w.heap.size, 9, none⟩ (.int .i64 0)).setCell ⟨w.heap.size, 10, none⟩ (.int .i64 0)) = F at hF hbel ⊢
      have q0 := art_cell hF 0
      simp only [Art.cells] at q0
      have q1 := art_cell hF 1
      simp only [Art.cells] at q1
      have q2 := art_cell hF 2
      simp only [Art.cells] at q2
      have q3 := art_cell hF 3
      simp only [Art.cells] at q3
      have q4 := art_cell hF 4
      simp only [Art.cells] at q4
      have q5 := art_cell hF 5
      simp only [Art.cells] at q5
      have q6 := art_cell hF 6
      simp only [Art.cells] at q6
      have q7 := art_cell hF 7
      simp only [Art.cells] at q7
      have q8 := art_cell hF 8
      simp only [Art.cells] at q8
      have q9 := art_cell hF 9
      simp only [Art.cells] at q9
      have q10 := art_cell hF 10
      simp only [Art.cells] at q10
      refine bodyPost_ret (v := .tuple #[.agg #[.int .i64 0, .string ⟨#[]⟩, .string ⟨#[]⟩, .string ⟨#[]⟩, .int .i64 0, .int .i64 0, .int .i64 0, .int .i64 0, .int .i64 0, .int .i64 0, .int .i64 0], .int .i64 4]) (by simp [results, Tryz.results19, go_sem, q0, q1, q2, q3, q4, q5, q6, q7, q8, q9, q10]) rfl ⟨?_, hbel⟩
      rw [HNN.out]
      rfl

end Go.Proofs.YtdedihdkkaoapaaGreatDoor

/- The contract of treasurylaw04.awake: the example of the chapter holds, whatever the world; nothing that was there turns. -/
namespace Go.Proofs.YtdedihdkkaoapaaGreatDoor
open Go.RowKit Go.Lib Go.Proofs

theorem art_eq (w : World) (a : Art) : (binOp .eql 24 (.agg a.cells) (.agg a.cells)).run Tryz.prog w = .ok (.bool true) w := by
  obtain ⟨kd, cd, ot, nm, yr, am, pc, nu, dy, ls, wh⟩ := a
  simp only [Art.cells]
  rw [run_eql_struct]
  simp [go_sem]

def exA : Art := ⟨3, ⟨#[51, 46, 57]⟩, ⟨#[]⟩, ⟨#[]⟩, 12, 5000, 0, 0, 0, 0, 0⟩
def exB : Art := ⟨10, ⟨#[51]⟩, ⟨#[]⟩, ⟨#[]⟩, -1, -1, 0, 2, 4710, 0, 2⟩
def exTA : ByteArray := ⟨#[108, 105, 110, 101, 32, 51, 46, 57, 32, 49, 50, 32, 53, 48, 48, 48]⟩
def exTB : ByteArray := ⟨#[97, 109, 101, 110, 100, 32, 49, 51, 45, 48, 50, 45, 48, 49, 32, 50, 32, 99, 101, 105, 108, 105, 110, 103, 32, 51, 32, 97, 108, 108, 32, 110, 111, 110, 101]⟩

theorem d5000 : decDigits 5000 = [53, 48, 48, 48] := by
  rw [decDigits_step 5000 (by omega), decDigits_step (5000 / 10) (by omega), decDigits_step (5000 / 10 / 10) (by omega), dec_one _ (by omega)]
  rfl
theorem itoaL (u : Nat) : (itoaT (u : Int)).data.toList = decDigits u := itoaT_nat u

theorem exA_write : writeOf formsL[2] exA = exTA := by
  refine bytes_ext ?_
  unfold writeOf
  rw [txt_list]
  have e1 : (itoaT 12).data.toList = [49, 50] := (itoaL 12).trans (dec_two 12 (by omega) (by omega))
  have e2 : (itoaT 5000).data.toList = [53, 48, 48, 48] := (itoaL 5000).trans d5000
  simp only [formsL, List.getElem_cons_succ, List.getElem_cons_zero, List.map_cons, List.map_nil, wordOf, exA, litW, txt_list, e1, e2]
  rfl

theorem exB_write : writeOf formsL[10] exB = exTB := by
  refine bytes_ext ?_
  unfold writeOf
  rw [txt_list]
  have e1 : (itoaT 2).data.toList = [50] := (itoaL 2).trans (dec_one 2 (by omega))
  have e2 : (dayT 4710).data.toList = [49, 51, 45, 48, 50, 45, 48, 49] := by
    unfold dayT
    rw [if_pos (dayB_true.2 ⟨by omega, by omega⟩)]
    show (dayText 4710).data.toList = _
    rw [dayText_list, dec_two (4710 / 360) (by omega) (by omega)]
    rfl
  have e3 : numOr (-1) allT = allT := rfl
  have e4 : numOr (-1) noneT = noneT := rfl
  simp only [formsL, List.getElem_cons_succ, List.getElem_cons_zero, List.map_cons, List.map_nil, wordOf, exB, litW, txt_list, e1, e2, e3, e4]
  rfl

theorem exA_parse : parseA exTA = some exA := by
  have h := plain_of (forms_at 2 (by decide)) (a := exA) (by intro p hp; simp only [formsL, litW, List.getElem_cons_zero, List.getElem_cons_succ, List.mem_cons, List.mem_nil_iff, or_false] at hp; rcases hp with rfl | rfl | rfl | rfl <;> first | trivial | exact i39 | (simp only [okP, exA]; omega)) rfl
  have := text_parse h.2
  rwa [h.1, exA_write] at this
theorem exB_parse : parseA exTB = some exB := by
  have h := plain_of (forms_at 10 (by decide)) (a := exB) (by intro p hp; simp only [formsL, litW, List.getElem_cons_zero, List.getElem_cons_succ, List.mem_cons, List.mem_nil_iff, or_false] at hp; rcases hp with rfl | rfl | rfl | rfl | rfl | rfl | rfl <;> first | trivial | exact i3 | (simp [okP, exB]; done)) rfl
  have := text_parse h.2
  rwa [h.1, exB_write] at this

set_option maxRecDepth 100000 in
set_option maxHeartbeats 2000000 in
theorem awake04_any (w : World) (hL : Lay w) : Calls Tryz.prog 6 #[] w fun e w' => e = .returned (.bool true) ∧ Below w.heap.size w w' := by
  have p1 := fun W (hW : Lay W) => arParse_any exTA W hW (by decide)
  have p2 := fun W (hW : Lay W) => arParse_any exTB W hW (by decide)
  rw [exA_parse] at p1
  rw [exB_parse] at p2
  have H1 := Lib.hid p1
  have H2 := Lib.hid p2
  have HL := Lib.hid hL
  have q1 := fun W => art_eq W exA
  have q2 := fun W => art_eq W exB
  simp only [Art.cells, exA] at q1
  simp only [Art.cells, exB] at q2
  clear p1 p2 hL
  go_enter Tryz.func6, Tryz.ntmps6
  go_wp2_with fail
  refine (H1.out _ HL.out).mono ?_
  rintro e w1 ⟨he, hb1⟩
  simp only [Art.cells, exA] at he
  subst he
  have hL2 := HL.out.below (hb1.alloc hb1.size (.cells exA.cells 24)) (Nat.le_refl _)
  simp only [Art.cells, exA] at hL2
  have HL2 := Lib.hid hL2
  have HB1 := Lib.hid hb1
  clear hb1 hL2
  go_wp2_with fail
  refine (H2.out _ HL2.out).mono ?_
  rintro e w2 ⟨he, hb2⟩
  simp only [Art.cells, exB] at he
  subst he
  have hbA := HB1.out.alloc HB1.out.size (.cells exA.cells 24)
  have hB2 := hbA.trans (hb2.mono hbA.size)
  have hc1 : w2.heap[w1.heap.size]? = some (.cells exA.cells 24 (0, 0)) := (hb2.block _ (by simp)).trans (heap_alloc_new w1 _)
  have u := art_cell hc1
  have hlt : w1.heap.size < w2.heap.size := (Array.getElem?_eq_some_iff.1 hc1).1
  simp only [Art.cells, exA] at u
  have HB2 := Lib.hid hB2
  clear hbA hB2 hb2 hc1
  go_wp2_with fail
  go_ret
  exact ⟨rfl, HB2.out.alloc HB2.out.size _⟩

end Go.Proofs.YtdedihdkkaoapaaGreatDoor

/- The walk of ArticleOrders: the order of made articles is total; for every list of numbers. -/
namespace Go.Proofs.YtdedihdkkaoapaaGreatDoor
open Go.RowKit Go.Lib Go.Proofs

theorem heads_at {w w2 : World} {tb n : Nat} {v : Value} {hs : List Head} {ls : List (List Nat)} (ho : w2.ownsRow w.heap.size 54 2 v hs.length (cellsH hs)) (ht : TreeHs n ls hs) (hlt : tb < w.heap.size) :
    ∃ g cap cs, v = .slice (some ⟨g, 0, none⟩) hs.length cap ∧ hs.length ≤ cap ∧ w.heap.size ≤ g ∧ g < w2.heap.size ∧ HeadsAt w2 tb g hs.length cs ∧ ∀ j, j < hs.length → isCodeB (cs.getD j ⟨#[]⟩) = true := by
  have hl : hs.length = ls.length := by
    have := congrArg List.length ht.codes
    rwa [List.length_map, texts_len] at this
  have h2 := ht.pos
  obtain ⟨g, cap, rfl, hg, hc⟩ := owns_shape ho (by omega)
  have hg2 : g < w2.heap.size := (ho.lt g rfl).2
  refine ⟨g, cap, texts ls, rfl, hc, hg, hg2, fun W hW j hj => ?_, fun j hj => ?_⟩
  · obtain ⟨c1, _⟩ := cellsH_get hs j hj
    rw [grownBy_cell' hW hg2 (by omega), ho.cellAt (j * 2) (by omega), c1]
    have e : hs[j].1 = (texts ls).getD j ⟨#[]⟩ := by
      rw [← ht.codes, List.getD_eq_getElem?_getD, List.getElem?_map, List.getElem?_eq_getElem hj]
      rfl
    rw [e]
  · have hjl : j < ls.length := by omega
    have e : (texts ls).getD j ⟨#[]⟩ = codeT ls[j] := by simp [texts, List.getD_eq_getElem?_getD, hjl]
    rw [e]
    exact isCodeB_codeT (ht.ok.good _ (List.getElem_mem hjl))

theorem HeadsAt.turn {w w' : World} {tb g m : Nat} {cs : List ByteArray} (h : HeadsAt w tb g m cs) (hg : w.grownBy w' (some tb)) : HeadsAt w' tb g m cs := fun W hW => h W (grownBy_trans hg hW)

theorem below_turn {w A B : World} {tb : Nat} (h : Below w.heap.size w A) (hg : A.grownBy B (some tb)) (htb : w.heap.size ≤ tb) : Below w.heap.size w B :=
  ⟨hg.os.trans h.os, hg.tape.trans h.tape, hg.output.trans h.output, Nat.le_trans h.size hg.size, fun k hk => (hg.block k (by have := h.size; omega) (fun e => by injection e; omega)).trans (h.block k hk)⟩

theorem none_text (k : Int) (h : k = 0 ∨ k = 99) : textA { Art.none with kind := k } = ⟨#[]⟩ := by
  unfold textA
  rcases h with rfl | rfl <;> rfl

theorem cb_three : ∀ a b : List UInt8, compareBytes a b = -1 ∨ compareBytes a b = 0 ∨ compareBytes a b = 1
  | [], [] => by simp [compareBytes]
  | [], _ :: _ => by simp [compareBytes]
  | _ :: _, [] => by simp [compareBytes]
  | x :: a, y :: b => by
    have ih := cb_three a b
    simp only [compareBytes]
    split
    · exact Or.inl rfl
    · split
      · exact Or.inr (Or.inr rfl)
      · exact ih
theorem cmpA_three (a b : Art) : cmpA a b = -1 ∨ cmpA a b = 0 ∨ cmpA a b = 1 := by
  unfold cmpA
  split
  · unfold compareInt
    split
    · exact Or.inl rfl
    · split
      · exact Or.inr (Or.inr rfl)
      · exact Or.inr (Or.inl rfl)
  · exact cb_three _ _

/-- Three articles stand in new blocks. -/
structure ThreeInv (w : World) (ca cb cc : Array Value) (W : World) : Prop where
  a : W.heap[w.heap.size]? = some (.cells ca 24 (0, 0))
  b : W.heap[w.heap.size + 1]? = some (.cells cb 24 (0, 0))
  c : W.heap[w.heap.size + 1 + 1]? = some (.cells cc 24 (0, 0))
  old : Below w.heap.size w W
theorem ThreeInv.later {w : World} {ca cb cc : Array Value} {A B : World} (h : ThreeInv w ca cb cc A) (hb : Below A.heap.size A B) : ThreeInv w ca cb cc B :=
  ⟨(hb.block _ (Array.getElem?_eq_some_iff.1 h.a).1).trans h.a, (hb.block _ (Array.getElem?_eq_some_iff.1 h.b).1).trans h.b, (hb.block _ (Array.getElem?_eq_some_iff.1 h.c).1).trans h.c, h.old.trans (hb.mono h.old.size)⟩
theorem ThreeInv.drew {w : World} {ca cb cc : Array Value} {A : World} (h : ThreeInv w ca cb cc A) : ThreeInv w ca cb cc A.drew := ⟨h.a, h.b, h.c, h.old.drew⟩
theorem ThreeInv.new (w : World) (ca cb cc : Array Value) : ThreeInv w ca cb cc (((w.alloc (.cells ca 24)).alloc (.cells cb 24)).alloc (.cells cc 24)) := by
  have e1 : (w.alloc (.cells ca 24)).heap.size = w.heap.size + 1 := by simp
  have e2 : ((w.alloc (.cells ca 24)).alloc (.cells cb 24)).heap.size = w.heap.size + 1 + 1 := by simp
  refine ⟨?_, ?_, ?_, (((Below.refl _ w).alloc (Nat.le_refl _) _).alloc (by simp) _).alloc (by simp; omega) _⟩
  · rw [Below.heap_alloc _ _ _ (by simp; omega), Below.heap_alloc _ _ _ (by simp)]; exact heap_alloc_new w _
  · rw [Below.heap_alloc _ _ _ (by simp)]
    have := heap_alloc_new (w.alloc (.cells ca 24)) (.cells cb 24)
    rwa [e1] at this
  · have := heap_alloc_new ((w.alloc (.cells ca 24)).alloc (.cells cb 24)) (.cells cc 24)
    rwa [e2] at this
theorem ThreeInv.cells {w : World} {ca cb cc : Array Value} {A : World} (h : ThreeInv w ca cb cc A) : (∀ j, A.cell? ⟨w.heap.size, j, none⟩ = ca[j]?) ∧ (∀ j, A.cell? ⟨w.heap.size + 1, j, none⟩ = cb[j]?) ∧ (∀ j, A.cell? ⟨w.heap.size + 1 + 1, j, none⟩ = cc[j]?) := ⟨fun j => art_cell h.a j, fun j => art_cell h.b j, fun j => art_cell h.c j⟩

end Go.Proofs.YtdedihdkkaoapaaGreatDoor

/- The contract of treasurylaw04.words: a text of words of articles, of at most 100 bytes; only the tape's place has turned. -/
namespace Go.Proofs.YtdedihdkkaoapaaGreatDoor
open Go.RowKit Go.Lib Go.Proofs

/-- The words of the kinds, and those that are laid behind them. -/
def kindW : List ByteArray := [⟨#[]⟩, ⟨#[121, 101, 97, 114, 115]⟩, ⟨#[104, 101, 97, 100, 105, 110, 103]⟩, ⟨#[108, 105, 110, 101]⟩, ⟨#[99, 101, 105, 108, 105, 110, 103]⟩, ⟨#[102, 108, 111, 111, 114]⟩, ⟨#[101, 97, 114, 109, 97, 114, 107]⟩, ⟨#[119, 97, 105, 116]⟩, ⟨#[114, 101, 97, 99, 104]⟩, ⟨#[114, 117, 108, 101]⟩, ⟨#[97, 109, 101, 110, 100]⟩]
def moreW : List ByteArray := [⟨#[49]⟩, ⟨#[50]⟩, ⟨#[51, 46, 57]⟩, ⟨#[49, 50]⟩, ⟨#[97, 108, 108]⟩, ⟨#[110, 111, 110, 101]⟩, ⟨#[49, 51, 45, 48, 50, 45, 48, 49]⟩, ⟨#[49, 48, 48]⟩, ⟨#[48]⟩, ⟨#[120]⟩, ⟨#[49, 46, 50]⟩]

theorem words_small : ((kindW ++ moreW).all fun x => decide (x.size ≤ 8)) = true := by decide

theorem rarWords_any (w : World) : Calls Tryz.prog 41 #[] w fun e w' => e = .returned (.slice (some ⟨w.heap.size, 0, none⟩) 11 11) ∧ w' = w.alloc (.cells (cellsS kindW).toArray 9) := by
  go_enter Tryz.func41, Tryz.ntmps41
  go_wp2
  go_ret
  exact ⟨rfl, rfl⟩

theorem kindW_owns (w : World) : (w.alloc (.cells (cellsS kindW).toArray 9)).ownsRow w.heap.size 9 1 (.slice (some ⟨w.heap.size, 0, none⟩) 11 11) 11 (cellsS kindW) :=
  World.ownsRow_lit (base := w.heap.size) (size := 1) (e := 9) w (cellsS kindW).toArray 11 (Nat.le_refl _) (by decide) rfl

/-- What words hands back. -/
def WsPost (tb : Nat) (w : World) (e : Ending) (w' : World) : Prop := ∃ t : ByteArray, e = .returned (.string t) ∧ t.size ≤ 100 ∧ TapeAt w' tb ∧ w.grownBy w' (some tb)

/-- The world of words: the words in block g, a tape. -/
structure WsInv (w : World) (tb g : Nat) (W : World) : Prop where
  tape : TapeAt W tb
  old : w.grownBy W (some tb)
  row : ∀ r : Nat, r < 22 → ∃ x, W.cell? ⟨g, r, none⟩ = some (.string x) ∧ x.size ≤ 8
  far : tb < g ∧ g < W.heap.size

theorem WsInv.turn {w : World} {tb g : Nat} {A B : World} (h : WsInv w tb g A) (ht : TapeAt B tb) (hg : A.grownBy B (some tb)) : WsInv w tb g B := by
  have hf := h.far
  refine ⟨ht, grownBy_trans h.old hg, fun r hr => ?_, hf.1, Nat.lt_of_lt_of_le hf.2 hg.size⟩
  obtain ⟨x, h1, h2⟩ := h.row r hr
  exact ⟨x, by rw [grownBy_cell' hg hf.2 (by omega)]; exact h1, h2⟩

theorem wsinv_new {w A B : World} {tb g cap : Nat} {row : Option Nat} (hlt : tb < w.heap.size) (ht : TapeAt w tb) (hA : Below w.heap.size w A) (hB : A.grownBy B row) (hr : ∀ r, row = some r → w.heap.size ≤ r) (ho : B.ownsRow w.heap.size 9 1 (.slice (some ⟨g, 0, none⟩) 22 cap) 22 (cellsS kindW ++ cellsS moreW)) : WsInv w tb g B := by
  have hb : Below w.heap.size w B := hA.grown hB hA.size hr
  have hg := ho.lt g rfl
  refine ⟨ht.below hb, grownBy_below hb, fun r hr => ?_, by omega, hg.2⟩
  have hl : r < (kindW ++ moreW).length := hr
  refine ⟨(kindW ++ moreW)[r], ?_, ?_⟩
  · rw [ho.cellAt r (by omega)]
    have : cellsS kindW ++ cellsS moreW = cellsS (kindW ++ moreW) := by unfold cellsS; rw [List.map_append]
    rw [this, cellsS_get _ r hl]
  · have := List.all_eq_true.1 words_small _ (List.getElem_mem hl)
    simpa using this

theorem moreW_cells (w : World) (o : Obj) : ∀ (j : Nat) u, (cellsS moreW)[j]? = some u → ((w.alloc o).alloc (.cells (cellsS moreW).toArray 9)).cell? ((⟨w.heap.size + 1, 0, none⟩ : Addr).add j) = some u := fun j u hu => by
  have e1 : (w.alloc o).heap.size = w.heap.size + 1 := by simp
  have h := heap_alloc_new (w.alloc o) (.cells (cellsS moreW).toArray 9)
  rw [e1] at h
  rw [add_plain, Nat.zero_add, cell_of_row _ _ _ _ _ _ h]
  simpa using hu
theorem moreW_one : ∀ u ∈ cellsS moreW, u.oneCell' = true := by
  intro u hu
  simp only [cellsS, List.mem_map] at hu
  obtain ⟨x, _, rfl⟩ := hu
  rfl

set_option maxRecDepth 100000 in
set_option maxHeartbeats 4000000 in
theorem words_any (tb : Nat) (w : World) (ht : TapeAt w tb) : Calls Tryz.prog 18 #[.pointer (some ⟨tb, 0, none⟩)] w (WsPost tb w) := by
  obtain ⟨i0, hi, hz0, hz1, hz2⟩ := infoS_parts
  have hlt := ht.lt
  have HT := Lib.hid ht
  have HN := Lib.hid (fun (n : Int) W (h : TapeAt W tb) (h1 : 1 ≤ n) (h2 : n ≤ 4611686018427387904) => N_any tb n W h h1 h2)
  clear ht
  go_enter Tryz.func18, Tryz.ntmps18
  go_wp2_with (first
    | (go_at_call 41; refine (rarWords_any _).mono ?_; rintro e w1 ⟨rfl, rfl⟩)
    | (at_builtin; refine wpList_append_own _ rfl _ _ 37 rfl w.heap.size 9 i0 (.string ⟨#[]⟩) 1 16 Tryz.underlying37 hi hz0 hz1 hz2 rfl (by decide) _ _ _ rfl ((kindW_owns w).alloc _) ⟨w.heap.size + 1, 0, none⟩ 11 11 (cellsS moreW) rfl rfl (moreW_cells w _) moreW_one (by unfold maxLen; omega) (by omega) (by simp; omega) ?_; intro v4 w4 hown4 hgr4 _; obtain ⟨g, cap, rfl, hg0, hcap⟩ := owns_shape hown4 (by omega)))
  have hi4 : WsInv w tb g w4 := wsinv_new hlt HT.out (((Below.refl _ w).alloc (Nat.le_refl _) _).alloc (by simp) _) hgr4 (fun r e => by cases e; exact Nat.le_refl _) hown4
  have HI4 := Lib.hid hi4
  clear hown4 hgr4 hi4
  refine (HN.out 8 _ HI4.out.tape (by omega) (by omega)).mono ?_
  rintro e w5 ⟨r5, rfl, r50, r51, t5, g5⟩
  have HI5 := Lib.hid (HI4.out.turn t5 g5)
  obtain ⟨k5, hk5⟩ : ∃ k : Nat, r5 = k := ⟨r5.toNat, by omega⟩
  subst hk5
  clear t5 g5 HI4
  go_wp2_with fail
  go_loopw [4, 5] (fun o i wr => ∃ (k : Nat) (t : ByteArray), o = .string t ∧ i = .int .i64 k ∧ k ≤ 7 ∧ t.size + 9 * k ≤ 63 ∧ Hid (WsInv w tb g wr)) (fun _ i _ => (RowKit.intOf i).toNat)
  case atStart => exact ⟨k5, ⟨#[]⟩, rfl, rfl, by omega, by show 0 + 9 * k5 ≤ 63; omega, HI5⟩
  case round =>
    obtain ⟨k, t, rfl, rfl, hk7, hsz, HI⟩ := hrel
    by_cases hk : 0 < k
    · have hk1 : (0 : Int) < (k : Int) := by omega
      go_wp2_with fail
      refine (HN.out 22 _ HI.out.tape (by omega) (by omega)).mono ?_
      rintro e w6 ⟨r6, rfl, r60, r61, t6, g6⟩
      have HI6 := Lib.hid (HI.out.turn t6 g6)
      obtain ⟨j, rfl⟩ : ∃ j : Nat, r6 = j := ⟨r6.toNat, by omega⟩
      obtain ⟨x, hx, hx8⟩ := HI6.out.row j (by omega)
      clear t6 g6 HI
      by_cases hk2 : 1 < k
      · have hk3 : (1 : Int) < (k : Int) := by omega
        go_wp2_with fail
        exact ⟨⟨k - 1, t ++ x ++ ⟨#[32]⟩, rfl, by congr 1; omega, by omega, by simp only [ByteArray.size_append]; have : (⟨#[32]⟩ : ByteArray).size = 1 := rfl; omega, HI6⟩, by simp [RowKit.intOf]; omega⟩
      · obtain rfl : k = 1 := by omega
        have hk3 : ¬ (1 : Int) < ((1 : Nat) : Int) := by omega
        go_wp2_with fail
        refine (HN.out 8 _ HI6.out.tape (by omega) (by omega)).mono ?_
        rintro e w7 ⟨r7, rfl, r70, r71, t7, g7⟩
        have HI7 := Lib.hid (HI6.out.turn t7 g7)
        clear t7 g7 HI6
        by_cases h7 : r7 = 7
        · subst h7
          go_wp2_with fail
          exact ⟨⟨0, t ++ x ++ ⟨#[32]⟩, rfl, rfl, by omega, by simp only [ByteArray.size_append]; have : (⟨#[32]⟩ : ByteArray).size = 1 := rfl; omega, HI7⟩, by simp [RowKit.intOf]⟩
        · have h7b : (r7 == 7) = false := by rw [beq_eq_false_iff_ne]; exact h7
          go_wp2_with fail
          exact ⟨⟨0, t ++ x, rfl, rfl, by omega, by simp only [ByteArray.size_append]; have : (⟨#[32]⟩ : ByteArray).size = 1 := rfl; omega, HI7⟩, by simp [RowKit.intOf]⟩
    · obtain rfl : k = 0 := by omega
      go_wp2
      go_ret
      exact ⟨t, rfl, by omega, HI.out.tape, HI.out.old⟩

end Go.Proofs.YtdedihdkkaoapaaGreatDoor

/- Contracts of the article's reference: whether a number is a year, a number, a percentage, a day, an amount; whether a text is a code, a name. -/
namespace Go.Proofs.YtdedihdkkaoapaaGreatDoor
open Go.RowKit Go.Lib Go.Proofs

theorem raryear_any (n : Int) (w : World) :
    Calls Tryz.prog 31 #[.int .i64 n] w fun e w' => e = .returned (.bool (inB n 0 99)) ∧ w = w' := by
  by_cases h1 : 0 ≤ n
  · by_cases h2 : n ≤ 99
    · have h : inB n 0 99 = true := inB_true.2 ⟨h1, h2⟩
      rw [h]; clear h
      go_enter Tryz.func31, Tryz.ntmps31
      go_wp2
      go_ret
      exact ⟨rfl, rfl⟩
    · have h : inB n 0 99 = false := inB_false.2 (fun q => h2 q.2)
      rw [h]; clear h
      go_enter Tryz.func31, Tryz.ntmps31
      go_wp2
      go_ret
      exact ⟨rfl, rfl⟩
  · have h : inB n 0 99 = false := inB_false.2 (fun q => h1 q.1)
    rw [h]; clear h
    go_enter Tryz.func31, Tryz.ntmps31
    go_wp2
    go_ret
    exact ⟨rfl, rfl⟩

theorem rarnumber_any (n : Int) (w : World) :
    Calls Tryz.prog 37 #[.int .i64 n] w fun e w' => e = .returned (.bool (inB n 1 1000000)) ∧ w = w' := by
  by_cases h1 : 1 ≤ n
  · by_cases h2 : n ≤ 1000000
    · have h : inB n 1 1000000 = true := inB_true.2 ⟨h1, h2⟩
      rw [h]; clear h
      go_enter Tryz.func37, Tryz.ntmps37
      go_wp2
      go_ret
      exact ⟨rfl, rfl⟩
    · have h : inB n 1 1000000 = false := inB_false.2 (fun q => h2 q.2)
      rw [h]; clear h
      go_enter Tryz.func37, Tryz.ntmps37
      go_wp2
      go_ret
      exact ⟨rfl, rfl⟩
  · have h : inB n 1 1000000 = false := inB_false.2 (fun q => h1 q.1)
    rw [h]; clear h
    go_enter Tryz.func37, Tryz.ntmps37
    go_wp2
    go_ret
    exact ⟨rfl, rfl⟩

theorem rarpercent_any (n : Int) (w : World) :
    Calls Tryz.prog 35 #[.int .i64 n] w fun e w' => e = .returned (.bool (inB n 0 100)) ∧ w = w' := by
  by_cases h1 : 0 ≤ n
  · by_cases h2 : n ≤ 100
    · have h : inB n 0 100 = true := inB_true.2 ⟨h1, h2⟩
      rw [h]; clear h
      go_enter Tryz.func35, Tryz.ntmps35
      go_wp2
      go_ret
      exact ⟨rfl, rfl⟩
    · have h : inB n 0 100 = false := inB_false.2 (fun q => h2 q.2)
      rw [h]; clear h
      go_enter Tryz.func35, Tryz.ntmps35
      go_wp2
      go_ret
      exact ⟨rfl, rfl⟩
  · have h : inB n 0 100 = false := inB_false.2 (fun q => h1 q.1)
    rw [h]; clear h
    go_enter Tryz.func35, Tryz.ntmps35
    go_wp2
    go_ret
    exact ⟨rfl, rfl⟩

theorem rarday_any (n : Int) (w : World) :
    Calls Tryz.prog 36 #[.int .i64 n] w fun e w' => e = .returned (.bool (inB n 0 35990)) ∧ w = w' := by
  by_cases h1 : 0 ≤ n
  · by_cases h2 : n ≤ 35990
    · have h : inB n 0 35990 = true := inB_true.2 ⟨h1, h2⟩
      rw [h]; clear h
      go_enter Tryz.func36, Tryz.ntmps36
      go_wp2
      go_ret
      exact ⟨rfl, rfl⟩
    · have h : inB n 0 35990 = false := inB_false.2 (fun q => h2 q.2)
      rw [h]; clear h
      go_enter Tryz.func36, Tryz.ntmps36
      go_wp2
      go_ret
      exact ⟨rfl, rfl⟩
  · have h : inB n 0 35990 = false := inB_false.2 (fun q => h1 q.1)
    rw [h]; clear h
    go_enter Tryz.func36, Tryz.ntmps36
    go_wp2
    go_ret
    exact ⟨rfl, rfl⟩

theorem rmValid_any (n : Int) (w : World) :
    Calls Tryz.prog 34 #[.int .i64 n] w fun e w' => e = .returned (.bool (inB n 0 1000000000000)) ∧ w = w' := by
  by_cases h1 : 0 ≤ n
  · by_cases h2 : n ≤ 1000000000000
    · have h : inB n 0 1000000000000 = true := inB_true.2 ⟨h1, h2⟩
      rw [h]; clear h
      go_enter Tryz.func34, Tryz.ntmps34
      go_wp2
      go_ret
      exact ⟨rfl, rfl⟩
    · have h : inB n 0 1000000000000 = false := inB_false.2 (fun q => h2 q.2)
      rw [h]; clear h
      go_enter Tryz.func34, Tryz.ntmps34
      go_wp2
      go_ret
      exact ⟨rfl, rfl⟩
  · have h : inB n 0 1000000000000 = false := inB_false.2 (fun q => h1 q.1)
    rw [h]; clear h
    go_enter Tryz.func34, Tryz.ntmps34
    go_wp2
    go_ret
    exact ⟨rfl, rfl⟩

set_option maxHeartbeats 1000000 in
theorem rarcode_any (s : ByteArray) (w : World) (hs : s.size ≤ 1000000) :
    Calls Tryz.prog 32 #[.string s] w fun e w' => e = .returned (.bool (isCodeB s)) ∧ Below w.heap.size w w' := by
  have HP := Lib.hid (rclParts_any s w hs)
  have hlen : (partsN s).length ≤ 4 := by
    by_cases h : partsN s = []
    · rw [h]; exact Nat.zero_le _
    · exact (partsN_inv h).1.2.1
  have hc : isCodeB s = decide (partsN s ≠ []) := rfl
  rw [hc]
  generalize partsN s = P at *
  clear hc hs
  cases P with
  | nil =>
    go_enter Tryz.func32, Tryz.ntmps32
    go_wp2_with fail
    refine (HP.out).mono ?_
    rintro e w1 ⟨v, rfl, ho, hb⟩
    obtain ⟨ao, cap, rfl, hcap, _, _⟩ := owned_ints ho
    have HB := Lib.hid hb
    clear hb ho
    go_wp2
    go_ret
    exact ⟨rfl, HB.out⟩
  | cons x l =>
    have hl : (0 : Int) < ((x :: l).length : Int) := by simp only [List.length_cons]; omega
    obtain ⟨m, hm⟩ : ∃ m, m = (x :: l).length := ⟨_, rfl⟩
    have hd : decide ((x :: l) ≠ []) = true := by simp
    rw [hd]
    rw [← hm] at hl
    go_enter Tryz.func32, Tryz.ntmps32
    go_wp2_with fail
    refine (HP.out).mono ?_
    rintro e w1 ⟨v, rfl, ho, hb⟩
    rw [← hm] at ho
    obtain ⟨ao, cap, rfl, hcap, _, _⟩ := owned_ints ho
    have HB := Lib.hid hb
    clear hb ho
    go_wp2
    go_ret
    exact ⟨rfl, HB.out⟩

/-- A name, byte by byte. -/
theorem nameB_bytes (s : ByteArray) (h1 : 1 ≤ s.size) (h40 : s.size ≤ 40) (h0 : s.data.toList.getD 0 0 ≠ 32) (hl : s.data.toList.getD (s.size - 1) 0 ≠ 32) : nameB s = s.data.toList.all plainC := by
  unfold nameB
  have e1 : inB s.size 1 40 = true := inB_true.2 (And.intro (show (1 : Int) ≤ (s.size : Int) by omega) (show (s.size : Int) ≤ 40 by omega))
  have hsz := size_list s
  have e2 : hasPrefix s.data.toList [32] = false := by
    cases hd : s.data.toList with
    | nil => rw [hd] at hsz; have h00 : s.size = 0 := hsz; omega
    | cons a l =>
      rw [hd] at h0
      simp at h0
      simp [hasPrefix, List.isPrefixOf]
      exact fun e => h0 e.symm
  have e3 : hasSuffix s.data.toList [32] = false := by
    rw [Bool.eq_false_iff]
    intro ht
    unfold hasSuffix at ht
    obtain ⟨l, hl2⟩ := List.isSuffixOf_iff_suffix.1 ht
    rw [← hl2] at hl hsz
    have : s.size - 1 = l.length := by rw [hsz]; simp
    rw [this] at hl
    simp [List.getD] at hl
  rw [e1, e2, e3]
  rfl

theorem nameB_edge (s : ByteArray) (h : s.size < 1 ∨ 40 < s.size ∨ s.data.toList.getD 0 0 = 32 ∨ s.data.toList.getD (s.size - 1) 0 = 32) : nameB s = false := by
  rw [Bool.eq_false_iff]
  intro ht
  unfold nameB at ht
  simp only [Bool.and_eq_true, Bool.not_eq_true'] at ht
  obtain ⟨t1, t2, t3, _⟩ := ht
  have e1 := inB_true.1 t1
  have hsz := size_list s
  rcases h with h | h | h | h
  · omega
  · omega
  · cases hd : s.data.toList with
    | nil => rw [hd] at hsz; have h00 : s.size = 0 := hsz; omega
    | cons a l =>
      rw [hd] at h t2
      simp at h
      subst h
      simp [hasPrefix, List.isPrefixOf] at t2
  · have hne : s.data.toList ≠ [] := fun e => by rw [e] at hsz; have h00 : s.size = 0 := hsz; omega
    obtain ⟨x, hx⟩ : ∃ x, s.data.toList = s.data.toList.dropLast ++ [x] := ⟨_, (List.dropLast_concat_getLast hne).symm⟩
    generalize s.data.toList.dropLast = l at hx
    rw [hx] at h hsz t3
    have : s.size - 1 = l.length := by rw [hsz]; simp
    rw [this] at h
    simp [List.getD] at h
    subst h
    have : hasSuffix (l ++ [32]) [32] = true := by
      unfold hasSuffix
      exact List.isSuffixOf_iff_suffix.2 ⟨l, rfl⟩
    rw [this] at t3; cases t3

set_option maxRecDepth 100000 in
set_option maxHeartbeats 4000000 in
theorem rclname_any (s : ByteArray) (w : World) (hs : s.size ≤ 1000000) :
    Calls Tryz.prog 69 #[.string s] w fun e w' => e = .returned (.bool (nameB s)) ∧ Below w.heap.size w w' := by
  obtain ⟨r, hr⟩ : ∃ r, nameB s = r := ⟨_, rfl⟩
  rw [hr]
  have hlen : s.data.toList.length = s.size := (size_list s).symm
  have hget : ∀ j (h : j < s.size), s.data.toList.getD j 0 = s[j] := fun j h => by
    rw [List.getD_eq_getElem?_getD, List.getElem?_eq_getElem (by rw [hlen]; exact h)]
    rfl
  by_cases z1 : s.size < 1
  · have hrr : r = false := by rw [← hr]; exact nameB_edge s (Or.inl z1)
    subst hrr
    have z1' : (s.size : Int) < 1 := by omega
    clear hr hget hlen
    go_enter Tryz.func69, Tryz.ntmps69
    go_wp2
    go_ret
    exact ⟨rfl, Below.refl _ _⟩
  · by_cases z2 : 40 < s.size
    · have hrr : r = false := by rw [← hr]; exact nameB_edge s (Or.inr (Or.inl z2))
      subst hrr
      have z2' : (40 : Int) < (s.size : Int) := by omega
      clear hr hget hlen
      go_enter Tryz.func69, Tryz.ntmps69
      go_wp2
      go_ret
      exact ⟨rfl, Below.refl _ _⟩
    · have k1 : (1 : Int) ≤ (s.size : Int) := by omega
      have k2 : (s.size : Int) ≤ 40 := by omega
      have k0 : 0 < s.size := by omega
      have kl : s.size - 1 < s.size := by omega
      by_cases z3 : s[0] = 32
      · have hrr : r = false := by rw [← hr]; exact nameB_edge s (Or.inr (Or.inr (Or.inl (by rw [hget 0 k0]; exact z3))))
        subst hrr
        have b0 : ((s[0].toNat : Int) == 32) = true := by rw [z3]; rfl
        clear hr hget hlen
        go_enter Tryz.func69, Tryz.ntmps69
        go_wp2
        go_ret
        exact ⟨rfl, Below.refl _ _⟩
      · have b0 : ((s[0].toNat : Int) == 32) = false := by
          rw [beq_eq_false_iff_ne]
          intro e
          exact z3 (UInt8.toNat_inj.1 (by have : (32 : UInt8).toNat = 32 := rfl; omega))
        have hidx : ((s.size : Int) - 1).toNat = s.size - 1 := by omega
        by_cases z4 : s[s.size - 1] = 32
        · have hrr : r = false := by rw [← hr]; exact nameB_edge s (Or.inr (Or.inr (Or.inr (by rw [hget _ kl]; exact z4))))
          subst hrr
          have b1 : ((s[s.size - 1].toNat : Int) == 32) = true := by rw [z4]; rfl
          clear hr hget hlen
          go_enter Tryz.func69, Tryz.ntmps69
          go_wp2
          go_ret
          exact ⟨rfl, Below.refl _ _⟩
        · have b1 : ((s[s.size - 1].toNat : Int) == 32) = false := by
            rw [beq_eq_false_iff_ne]
            intro e
            exact z4 (UInt8.toNat_inj.1 (by have : (32 : UInt8).toNat = 32 := rfl; omega))
          have hall : nameB s = s.data.toList.all plainC := nameB_bytes s (by omega) (by omega) (by rw [hget 0 k0]; exact z3) (by rw [hget _ kl]; exact z4)
          have hbad : ∀ j (h : j < s.size), plainC s[j] = false → r = false := fun j h hp => by
            rw [← hr, hall]
            have hj : j < s.data.toList.length := by rw [hlen]; exact h
            exact all_false hj hp
          have hgood : (∀ j (h : j < s.size), plainC s[j] = true) → r = true := fun h => by
            rw [← hr, hall, List.all_eq_true]
            intro x hx
            obtain ⟨j, hj, rfl⟩ := List.mem_iff_getElem.1 hx
            exact h j (by rw [← hlen]; exact hj)
          have HBAD := Lib.hid hbad
          have HGOOD := Lib.hid hgood
          clear hr hget hlen hall hbad hgood
          go_enter Tryz.func69, Tryz.ntmps69
          go_wp2
          go_loopw [3] (fun i wr => ∃ k : Nat, i = .int .i64 k ∧ k ≤ s.size ∧ wr = w ∧ Hid (∀ j (h : j < s.size), j < k → plainC s[j] = true)) (fun i _ => s.size - (RowKit.intOf i).toNat)
          case atStart => exact ⟨0, rfl, Nat.zero_le _, rfl, Lib.hid (fun j _ h => by omega)⟩
          case round =>
            obtain ⟨k, rfl, hk, rfl, HG⟩ := hrel
            by_cases hlt : k < s.size
            · have hlt' : (k : Int) < (s.size : Int) := by omega
              by_cases p1 : s[k].toNat < 32
              · have p1' : (s[k].toNat : Int) < 32 := by omega
                have hrr : r = false := HBAD.out k hlt (by unfold plainC; exact decide_eq_false (by omega))
                subst hrr
                go_wp2
                go_ret
                exact ⟨rfl, Below.refl _ _⟩
              · have p1' : (32 : Int) ≤ (s[k].toNat : Int) := by omega
                by_cases p2 : 126 < s[k].toNat
                · have p2' : (126 : Int) < (s[k].toNat : Int) := by omega
                  have hrr : r = false := HBAD.out k hlt (by unfold plainC; exact decide_eq_false (by omega))
                  subst hrr
                  go_wp2
                  go_ret
                  exact ⟨rfl, Below.refl _ _⟩
                · have p2' : (s[k].toNat : Int) ≤ 126 := by omega
                  have HG2 : Hid (∀ j (h : j < s.size), j < k + 1 → plainC s[j] = true) := Lib.hid (fun j h hj => by
                    by_cases e : j = k
                    · subst e
                      unfold plainC
                      exact decide_eq_true (by omega)
                    · exact HG.out j h (by omega))
                  go_wp2
                  go_roundw
                  case rel => exact ⟨k + 1, by first | rfl | go_num, by omega, by first | rfl | trivial, HG2⟩
                  case measure => simp [RowKit.intOf]; omega
            · obtain rfl : k = s.size := by omega
              have hrr : r = true := HGOOD.out (fun j h => HG.out j h h)
              subst hrr
              have hge : (s.size : Int) ≤ (s.size : Int) := by omega
              go_wp2
              go_ret
              exact ⟨rfl, Below.refl _ _⟩

end Go.Proofs.YtdedihdkkaoapaaGreatDoor

/- Contracts of the classification's reference at a list of one heading with the code 1: whether it is valid hangs on its name alone. -/
namespace Go.Proofs.YtdedihdkkaoapaaGreatDoor
open Go.RowKit Go.Lib Go.Proofs

set_option maxRecDepth 100000 in
set_option maxHeartbeats 2000000 in
theorem rclGood_one (w : World) : Calls Tryz.prog 68 #[.string ⟨#[49]⟩] w fun e w' => e = .returned (.bool true) ∧ w' = w := by
  have b0 : ∀ h : 0 < (⟨#[49]⟩ : ByteArray).size, ((⟨#[49]⟩ : ByteArray)[0]'h).toNat = 49 := fun _ => rfl
  go_enter Tryz.func68, Tryz.ntmps68
  go_wp2
  go_loopw [3, 4, 5] (fun d p i wr => wr = w ∧ p = .int .i64 1 ∧ ((d = .int .i64 0 ∧ i = .int .i64 0) ∨ (d = .int .i64 1 ∧ i = .int .i64 1))) (fun _ _ i _ => 1 - (RowKit.intOf i).toNat)
  case atStart => exact ⟨rfl, rfl, Or.inl ⟨rfl, rfl⟩⟩
  case round =>
    obtain ⟨rfl, rfl, ⟨rfl, rfl⟩ | ⟨rfl, rfl⟩⟩ := hrel
    · go_wp2
      go_roundw
      case rel => exact ⟨by first | rfl | trivial, by first | rfl | trivial, Or.inr ⟨by first | rfl | go_num, by first | rfl | go_num⟩⟩
      case measure => simp [RowKit.intOf]
    · go_wp2
      go_ret
      exact ⟨rfl, rfl⟩

set_option maxRecDepth 100000 in
set_option maxHeartbeats 2000000 in
theorem rclParent_one (w : World) : Calls Tryz.prog 70 #[.string ⟨#[49]⟩] w fun e w' => e = .returned (.string ⟨#[]⟩) ∧ w' = w := by
  have HG := Lib.hid (rclGood_one w)
  go_enter Tryz.func70, Tryz.ntmps70
  go_wp2_with fail
  refine (HG.out).mono ?_
  rintro e w1 ⟨rfl, rfl⟩
  go_wp2
  go_loopw [3] (fun i wr => wr = w1 ∧ (i = .int .i64 0 ∨ i = .int .i64 (-1))) (fun i _ => (RowKit.intOf i + 1).toNat)
  case atStart => exact ⟨rfl, Or.inl rfl⟩
  case round =>
    obtain ⟨rfl, rfl | rfl⟩ := hrel
    · go_wp2
      go_roundw
      case rel => exact ⟨by first | rfl | trivial, Or.inr (by first | rfl | go_num)⟩
      case measure => simp [RowKit.intOf]
    · go_wp2
      go_ret
      exact ⟨rfl, rfl⟩

/-- One heading stands in a row. -/
structure OneHead (w : World) (g : Nat) (s : ByteArray) (W : World) : Prop where
  code : W.cell? ⟨g, 0, none⟩ = some (.string ⟨#[49]⟩)
  name : W.cell? ⟨g, 1, none⟩ = some (.string s)
  lt : g < W.heap.size
  old : Below w.heap.size w W
theorem OneHead.below {w : World} {g : Nat} {s : ByteArray} {A B : World} (h : OneHead w g s A) (hb : Below A.heap.size A B) : OneHead w g s B :=
  ⟨(hb.cell (p := ⟨g, 0, none⟩) h.lt).trans h.code, (hb.cell (p := ⟨g, 1, none⟩) h.lt).trans h.name, Nat.lt_of_lt_of_le h.lt hb.size, h.old.trans (hb.mono h.old.size)⟩

set_option maxRecDepth 100000 in
set_option maxHeartbeats 4000000 in
theorem rclfirst_one (s : ByteArray) (g cap : Nat) (hcap : 1 ≤ cap) (w : World) (hs : s.size ≤ 1000000) (h : OneHead w g s w) :
    Calls Tryz.prog 53 #[.slice (some ⟨g, 0, none⟩) 1 cap] w fun e w' => (∃ n : Int, e = .returned (.tuple #[.int .i64 n, .int .i64 (if nameB s = true then 0 else 4)])) ∧ Below w.heap.size w w' := by
  have HG := Lib.hid (fun W => rclGood_one W)
  have HN := Lib.hid (fun W => rclname_any s W hs)
  have HP := Lib.hid (fun W => rclParent_one W)
  have H0 := Lib.hid h
  clear h
  have hc1 : (1 : Int) ≤ (cap : Int) := by omega
  go_enter Tryz.func53, Tryz.ntmps53
  go_wp2
  go_loopw [11] (fun i wr => Hid (OneHead w g s wr) ∧ (i = .int .i64 0 ∨ (i = .int .i64 1 ∧ nameB s = true))) (fun i _ => 1 - (RowKit.intOf i).toNat)
  case atStart => exact ⟨H0, Or.inl rfl⟩
  case round =>
    obtain ⟨HI, rfl | ⟨rfl, hnm⟩⟩ := hrel
    · have c0 := HI.out.code
      have c1 := HI.out.name
      have hlt := HI.out.lt
      generalize hnn : nameB s = nb at HN ⊢
      have HI2 := Lib.hid (HI.out.below (below_alloc wr (.cells #[.string ⟨#[49]⟩, .string s] 54)))
      clear HI
      cases nb with
      | false =>
        go_wp2_with fail
        refine (HG.out _).mono ?_
        rintro e w1 ⟨rfl, rfl⟩
        go_wp2_with fail
        refine (HN.out _).mono ?_
        rintro e w2 ⟨rfl, hb2⟩
        have HB := Lib.hid (HI2.out.below hb2)
        clear hb2
        go_wp2
        all_goals (go_ret2; exact ⟨⟨_, rfl⟩, HB.out.old⟩)
      | true =>
        go_wp2_with fail
        refine (HG.out _).mono ?_
        rintro e w1 ⟨rfl, rfl⟩
        go_wp2_with fail
        refine (HN.out _).mono ?_
        rintro e w2 ⟨rfl, hb2⟩
        have hw2 : w2.cell? ⟨wr.heap.size, 0, none⟩ = some (.string ⟨#[49]⟩) := (hb2.cell (p := ⟨wr.heap.size, 0, none⟩) (by simp)).trans (by rw [cell_of_row _ _ _ _ _ _ (heap_alloc_new wr _)]; rfl)
        have HB := Lib.hid (HI2.out.below hb2)
        clear hb2 HI2
        go_wp2_with fail
        go_quiet (fail)
        have hbd : ∀ q, OneHead w g s (w2.drewN q) := fun q => ⟨HB.out.code, HB.out.name, HB.out.lt, ⟨HB.out.old.os, HB.out.old.tape, HB.out.old.output, HB.out.old.size, HB.out.old.block⟩⟩
        have HBD := Lib.hid hbd
        clear hbd
        go_wp2_with fail
        refine (HP.out _).mono ?_
        rintro e w3 ⟨rfl, rfl⟩
        go_wp2_with fail
        go_roundw
        case rel => exact ⟨Lib.hid (HBD.out _), Or.inr ⟨by first | rfl | go_num, by first | exact hnn | trivial⟩⟩
        case measure => simp [RowKit.intOf]
    · have hold := HI.out.old
      have HO := Lib.hid hold
      rw [hnm]
      clear hold HI
      go_wp2
      go_ret2
      exact ⟨⟨_, rfl⟩, HO.out⟩

set_option maxHeartbeats 1000000 in
theorem rclValid_one (s : ByteArray) (g cap : Nat) (hcap : 1 ≤ cap) (w : World) (hs : s.size ≤ 1000000) (h : OneHead w g s w) :
    Calls Tryz.prog 33 #[.slice (some ⟨g, 0, none⟩) 1 cap] w fun e w' => e = .returned (.int .i64 (if nameB s = true then 0 else 4)) ∧ Below w.heap.size w w' := by
  have HF := Lib.hid (rclfirst_one s g cap hcap w hs h)
  generalize (if nameB s = true then (0 : Int) else 4) = x at *
  clear h
  go_enter Tryz.func33, Tryz.ntmps33
  go_wp2_with fail
  refine (HF.out).mono ?_
  rintro e w1 ⟨⟨n, rfl⟩, hb⟩
  go_wp2
  go_ret
  exact ⟨rfl, hb⟩

end Go.Proofs.YtdedihdkkaoapaaGreatDoor
