/- Texts of one claim, merged: ArtAw, ArtOW, ArtWs. -/
import Derived.Test.YtdgckdmgplpobaaGreatDoorMG3
import Derived.Test.YtdgckdmgplpobaaGreatDoorMArtParse
import Derived.Test.YtdgckdmgplpobaaGreatDoorMG2
import Derived.Test.YtdgckdmgplpobaaGreatDoorMMkArt
import Derived.Test.YtdgckdmgplpobaaGreatDoorMG4
/- The contract of treasurylaw04.awake: the example of the chapter holds, whatever the world; nothing that was there turns. -/
set_option linter.unusedSimpArgs false
set_option linter.unusedVariables false
namespace Go.Proofs.YtdgckdmgplpobaaGreatDoor
open Go.RowKit Go.Lib Go.Proofs

theorem art_eq (w : World) (a : Art) : (binOp .eql 24 (.agg a.cells) (.agg a.cells)).run Tryz.prog w = .ok (.bool true) w := by
  obtain ⟨kd, cd, ot, nm, yr, am, pc, nu, dy, ls, wh⟩ := a
  simp only [Art.cells]
  rw [run_eql_struct]
  simp [go_sem]

def exA : Art := ⟨3, ⟨#[51, 46, 57]⟩, ⟨#[]⟩, ⟨#[]⟩, 12, 5000, 0, 0, 0, 0, 0⟩
def exB : Art := ⟨10, ⟨#[51]⟩, ⟨#[]⟩, ⟨#[]⟩, -1, -1, 0, 2, 4710, 0, 2⟩
def exTA : ByteArray := ⟨#[108, 105, 110, 101, 32, 51, 46, 57, 32, 49, 50, 32, 53, 48, 48, 48]⟩
def exTB : ByteArray := ⟨#[97, 109, 101, 110, 100, 32, 49, 51, 45, 48, 50, 45, 48, 49, 32, 50, 32, 99, 101, 105, 108, 105, 110, 103, 32, 51, 32, 97, 108, 108, 32, 110, 111, 110, 101]⟩

theorem d5000 : decDigits 5000 = [53, 48, 48, 48] := by
  rw [decDigits_step 5000 (by omega), decDigits_step (5000 / 10) (by omega), decDigits_step (5000 / 10 / 10) (by omega), dec_one _ (by omega)]
  rfl
theorem itoaL (u : Nat) : (itoaT (u : Int)).data.toList = decDigits u := itoaT_nat u

theorem exA_write : writeOf formsL[2] exA = exTA := by
  refine bytes_ext ?_
  unfold writeOf
  rw [txt_list]
  have e1 : (itoaT 12).data.toList = [49, 50] := (itoaL 12).trans (dec_two 12 (by omega) (by omega))
  have e2 : (itoaT 5000).data.toList = [53, 48, 48, 48] := (itoaL 5000).trans d5000
  simp only [formsL, List.getElem_cons_succ, List.getElem_cons_zero, List.map_cons, List.map_nil, wordOf, exA, litW, txt_list, e1, e2]
  rfl

theorem exB_write : writeOf formsL[10] exB = exTB := by
  refine bytes_ext ?_
  unfold writeOf
  rw [txt_list]
  have e1 : (itoaT 2).data.toList = [50] := (itoaL 2).trans (dec_one 2 (by omega))
  have e2 : (dayT 4710).data.toList = [49, 51, 45, 48, 50, 45, 48, 49] := by
    unfold dayT
    rw [if_pos (dayB_true.2 ⟨by omega, by omega⟩)]
    show (dayText 4710).data.toList = _
    rw [dayText_list, dec_two (4710 / 360) (by omega) (by omega)]
    rfl
  have e3 : numOr (-1) allT = allT := rfl
  have e4 : numOr (-1) noneT = noneT := rfl
  simp only [formsL, List.getElem_cons_succ, List.getElem_cons_zero, List.map_cons, List.map_nil, wordOf, exB, litW, txt_list, e1, e2, e3, e4]
  rfl

theorem exA_parse : parseA exTA = some exA := by
  have h := plain_of (forms_at 2 (by decide)) (a := exA) (by intro p hp; simp only [formsL, litW, List.getElem_cons_zero, List.getElem_cons_succ, List.mem_cons, List.mem_nil_iff, or_false] at hp; rcases hp with rfl | rfl | rfl | rfl <;> first | trivial | exact i39 | (simp only [okP, exA]; omega)) rfl
  have := text_parse h.2
  rwa [h.1, exA_write] at this
theorem exB_parse : parseA exTB = some exB := by
  have h := plain_of (forms_at 10 (by decide)) (a := exB) (by intro p hp; simp only [formsL, litW, List.getElem_cons_zero, List.getElem_cons_succ, List.mem_cons, List.mem_nil_iff, or_false] at hp; rcases hp with rfl | rfl | rfl | rfl | rfl | rfl | rfl <;> first | trivial | exact i3 | (simp [okP, exB]; done)) rfl
  have := text_parse h.2
  rwa [h.1, exB_write] at this

set_option maxRecDepth 100000 in
set_option maxHeartbeats 2000000 in
theorem awake04_any (w : World) (hL : Lay w) : Calls Tryz.prog 5 #[] w fun e w' => e = .returned (.bool true) ∧ Below w.heap.size w w' := by
  have p1 := fun W (hW : Lay W) => arParse_any exTA W hW (by decide)
  have p2 := fun W (hW : Lay W) => arParse_any exTB W hW (by decide)
  rw [exA_parse] at p1
  rw [exB_parse] at p2
  have H1 := Lib.hid p1
  have H2 := Lib.hid p2
  have HL := Lib.hid hL
  have q1 := fun W => art_eq W exA
  have q2 := fun W => art_eq W exB
  simp only [Art.cells, exA] at q1
  simp only [Art.cells, exB] at q2
  clear p1 p2 hL
  go_enter Tryz.func5, Tryz.ntmps5
  go_wp2_with fail
  refine (H1.out _ HL.out).mono ?_
  rintro e w1 ⟨he, hb1⟩
  simp only [Art.cells, exA] at he
  subst he
  have hL2 := HL.out.below (hb1.alloc hb1.size (.cells exA.cells 24)) (Nat.le_refl _)
  simp only [Art.cells, exA] at hL2
  have HL2 := Lib.hid hL2
  have HB1 := Lib.hid hb1
  clear hb1 hL2
  go_wp2_with fail
  refine (H2.out _ HL2.out).mono ?_
  rintro e w2 ⟨he, hb2⟩
  simp only [Art.cells, exB] at he
  subst he
  have hbA := HB1.out.alloc HB1.out.size (.cells exA.cells 24)
  have hB2 := hbA.trans (hb2.mono hbA.size)
  have hc1 : w2.heap[w1.heap.size]? = some (.cells exA.cells 24 (0, 0)) := (hb2.block _ (by simp)).trans (heap_alloc_new w1 _)
  have u := art_cell hc1
  have hlt : w1.heap.size < w2.heap.size := (Array.getElem?_eq_some_iff.1 hc1).1
  simp only [Art.cells, exA] at u
  have HB2 := Lib.hid hB2
  clear hbA hB2 hb2 hc1
  go_wp2_with fail
  go_ret
  exact ⟨rfl, HB2.out.alloc HB2.out.size _⟩

end Go.Proofs.YtdgckdmgplpobaaGreatDoor

/- The walk of ArticleOrders: the order of made articles is total; for every list of numbers. -/
namespace Go.Proofs.YtdgckdmgplpobaaGreatDoor
open Go.RowKit Go.Lib Go.Proofs

theorem heads_at {w w2 : World} {tb n : Nat} {v : Value} {hs : List Head} {ls : List (List Nat)} (ho : w2.ownsRow w.heap.size 53 2 v hs.length (cellsH hs)) (ht : TreeHs n ls hs) (hlt : tb < w.heap.size) :
    ∃ g cap cs, v = .slice (some ⟨g, 0, none⟩) hs.length cap ∧ hs.length ≤ cap ∧ w.heap.size ≤ g ∧ g < w2.heap.size ∧ HeadsAt w2 tb g hs.length cs ∧ ∀ j, j < hs.length → isCodeB (cs.getD j ⟨#[]⟩) = true := by
  have hl : hs.length = ls.length := by
    have := congrArg List.length ht.codes
    rwa [List.length_map, texts_len] at this
  have h2 := ht.pos
  obtain ⟨g, cap, rfl, hg, hc⟩ := owns_shape ho (by omega)
  have hg2 : g < w2.heap.size := (ho.lt g rfl).2
  refine ⟨g, cap, texts ls, rfl, hc, hg, hg2, fun W hW j hj => ?_, fun j hj => ?_⟩
  · obtain ⟨c1, _⟩ := cellsH_get hs j hj
    rw [grownBy_cell' hW hg2 (by omega), ho.cellAt (j * 2) (by omega), c1]
    have e : hs[j].1 = (texts ls).getD j ⟨#[]⟩ := by
      rw [← ht.codes, List.getD_eq_getElem?_getD, List.getElem?_map, List.getElem?_eq_getElem hj]
      rfl
    rw [e]
  · have hjl : j < ls.length := by omega
    have e : (texts ls).getD j ⟨#[]⟩ = codeT ls[j] := by simp [texts, List.getD_eq_getElem?_getD, hjl]
    rw [e]
    exact isCodeB_codeT (ht.ok.good _ (List.getElem_mem hjl))

theorem HeadsAt.turn {w w' : World} {tb g m : Nat} {cs : List ByteArray} (h : HeadsAt w tb g m cs) (hg : w.grownBy w' (some tb)) : HeadsAt w' tb g m cs := fun W hW => h W (grownBy_trans hg hW)

theorem below_turn {w A B : World} {tb : Nat} (h : Below w.heap.size w A) (hg : A.grownBy B (some tb)) (htb : w.heap.size ≤ tb) : Below w.heap.size w B :=
  ⟨hg.os.trans h.os, hg.tape.trans h.tape, hg.output.trans h.output, Nat.le_trans h.size hg.size, fun k hk => (hg.block k (by have := h.size; omega) (fun e => by injection e; omega)).trans (h.block k hk)⟩

structure ThreeInv (w : World) (ca cb cc : Array Value) (W : World) : Prop where
  a : W.heap[w.heap.size]? = some (.cells ca 24 (0, 0))
  b : W.heap[w.heap.size + 1]? = some (.cells cb 24 (0, 0))
  c : W.heap[w.heap.size + 1 + 1]? = some (.cells cc 24 (0, 0))
  old : Below w.heap.size w W
theorem ThreeInv.later {w : World} {ca cb cc : Array Value} {A B : World} (h : ThreeInv w ca cb cc A) (hb : Below A.heap.size A B) : ThreeInv w ca cb cc B :=
  ⟨(hb.block _ (Array.getElem?_eq_some_iff.1 h.a).1).trans h.a, (hb.block _ (Array.getElem?_eq_some_iff.1 h.b).1).trans h.b, (hb.block _ (Array.getElem?_eq_some_iff.1 h.c).1).trans h.c, h.old.trans (hb.mono h.old.size)⟩
theorem ThreeInv.drew {w : World} {ca cb cc : Array Value} {A : World} (h : ThreeInv w ca cb cc A) : ThreeInv w ca cb cc A.drew := ⟨h.a, h.b, h.c, h.old.drew⟩
theorem ThreeInv.new (w : World) (ca cb cc : Array Value) : ThreeInv w ca cb cc (((w.alloc (.cells ca 24)).alloc (.cells cb 24)).alloc (.cells cc 24)) := by
  have e1 : (w.alloc (.cells ca 24)).heap.size = w.heap.size + 1 := by simp
  have e2 : ((w.alloc (.cells ca 24)).alloc (.cells cb 24)).heap.size = w.heap.size + 1 + 1 := by simp
  refine ⟨?_, ?_, ?_, (((Below.refl _ w).alloc (Nat.le_refl _) _).alloc (by simp) _).alloc (by simp; omega) _⟩
  · rw [Below.heap_alloc _ _ _ (by simp; omega), Below.heap_alloc _ _ _ (by simp)]; exact heap_alloc_new w _
  · rw [Below.heap_alloc _ _ _ (by simp)]
    have := heap_alloc_new (w.alloc (.cells ca 24)) (.cells cb 24)
    rwa [e1] at this
  · have := heap_alloc_new ((w.alloc (.cells ca 24)).alloc (.cells cb 24)) (.cells cc 24)
    rwa [e2] at this
theorem ThreeInv.cells {w : World} {ca cb cc : Array Value} {A : World} (h : ThreeInv w ca cb cc A) : (∀ j, A.cell? ⟨w.heap.size, j, none⟩ = ca[j]?) ∧ (∀ j, A.cell? ⟨w.heap.size + 1, j, none⟩ = cb[j]?) ∧ (∀ j, A.cell? ⟨w.heap.size + 1 + 1, j, none⟩ = cc[j]?) := ⟨fun j => art_cell h.a j, fun j => art_cell h.b j, fun j => art_cell h.c j⟩

end Go.Proofs.YtdgckdmgplpobaaGreatDoor

/- The contract of treasurylaw04.words: a text of words of articles, of at most 100 bytes; only the tape's place has turned. -/
namespace Go.Proofs.YtdgckdmgplpobaaGreatDoor
open Go.RowKit Go.Lib Go.Proofs

def kindW : List ByteArray := [⟨#[]⟩, ⟨#[121, 101, 97, 114, 115]⟩, ⟨#[104, 101, 97, 100, 105, 110, 103]⟩, ⟨#[108, 105, 110, 101]⟩, ⟨#[99, 101, 105, 108, 105, 110, 103]⟩, ⟨#[102, 108, 111, 111, 114]⟩, ⟨#[101, 97, 114, 109, 97, 114, 107]⟩, ⟨#[119, 97, 105, 116]⟩, ⟨#[114, 101, 97, 99, 104]⟩, ⟨#[114, 117, 108, 101]⟩, ⟨#[97, 109, 101, 110, 100]⟩]
def moreW : List ByteArray := [⟨#[49]⟩, ⟨#[50]⟩, ⟨#[51, 46, 57]⟩, ⟨#[49, 50]⟩, ⟨#[97, 108, 108]⟩, ⟨#[110, 111, 110, 101]⟩, ⟨#[49, 51, 45, 48, 50, 45, 48, 49]⟩, ⟨#[49, 48, 48]⟩, ⟨#[48]⟩, ⟨#[120]⟩, ⟨#[49, 46, 50]⟩]

theorem words_small : ((kindW ++ moreW).all fun x => decide (x.size ≤ 8)) = true := by decide

theorem rarWords_any (w : World) : Calls Tryz.prog 40 #[] w fun e w' => e = .returned (.slice (some ⟨w.heap.size, 0, none⟩) 11 11) ∧ w' = w.alloc (.cells (cellsS kindW).toArray 9) := by
  go_enter Tryz.func40, Tryz.ntmps40
  go_wp2
  go_ret
  exact ⟨rfl, rfl⟩

theorem kindW_owns (w : World) : (w.alloc (.cells (cellsS kindW).toArray 9)).ownsRow w.heap.size 9 1 (.slice (some ⟨w.heap.size, 0, none⟩) 11 11) 11 (cellsS kindW) :=
  World.ownsRow_lit (base := w.heap.size) (size := 1) (e := 9) w (cellsS kindW).toArray 11 (Nat.le_refl _) (by decide) rfl

def WsPost (tb : Nat) (w : World) (e : Ending) (w' : World) : Prop := ∃ t : ByteArray, e = .returned (.string t) ∧ t.size ≤ 100 ∧ TapeAt w' tb ∧ w.grownBy w' (some tb)

structure WsInv (w : World) (tb g : Nat) (W : World) : Prop where
  tape : TapeAt W tb
  old : w.grownBy W (some tb)
  row : ∀ r : Nat, r < 22 → ∃ x, W.cell? ⟨g, r, none⟩ = some (.string x) ∧ x.size ≤ 8
  far : tb < g ∧ g < W.heap.size

theorem WsInv.turn {w : World} {tb g : Nat} {A B : World} (h : WsInv w tb g A) (ht : TapeAt B tb) (hg : A.grownBy B (some tb)) : WsInv w tb g B := by
  have hf := h.far
  refine ⟨ht, grownBy_trans h.old hg, fun r hr => ?_, hf.1, Nat.lt_of_lt_of_le hf.2 hg.size⟩
  obtain ⟨x, h1, h2⟩ := h.row r hr
  exact ⟨x, by rw [grownBy_cell' hg hf.2 (by omega)]; exact h1, h2⟩

theorem wsinv_new {w A B : World} {tb g cap : Nat} {row : Option Nat} (hlt : tb < w.heap.size) (ht : TapeAt w tb) (hA : Below w.heap.size w A) (hB : A.grownBy B row) (hr : ∀ r, row = some r → w.heap.size ≤ r) (ho : B.ownsRow w.heap.size 9 1 (.slice (some ⟨g, 0, none⟩) 22 cap) 22 (cellsS kindW ++ cellsS moreW)) : WsInv w tb g B := by
  have hb : Below w.heap.size w B := hA.grown hB hA.size hr
  have hg := ho.lt g rfl
  refine ⟨ht.below hb, grownBy_below hb, fun r hr => ?_, by omega, hg.2⟩
  have hl : r < (kindW ++ moreW).length := hr
  refine ⟨(kindW ++ moreW)[r], ?_, ?_⟩
  · rw [ho.cellAt r (by omega)]
    have : cellsS kindW ++ cellsS moreW = cellsS (kindW ++ moreW) := by unfold cellsS; rw [List.map_append]
    rw [this, cellsS_get _ r hl]
  · have := List.all_eq_true.1 words_small _ (List.getElem_mem hl)
    simpa using this

theorem moreW_cells (w : World) (o : Obj) : ∀ (j : Nat) u, (cellsS moreW)[j]? = some u → ((w.alloc o).alloc (.cells (cellsS moreW).toArray 9)).cell? ((⟨w.heap.size + 1, 0, none⟩ : Addr).add j) = some u := fun j u hu => by
  have e1 : (w.alloc o).heap.size = w.heap.size + 1 := by simp
  have h := heap_alloc_new (w.alloc o) (.cells (cellsS moreW).toArray 9)
  rw [e1] at h
  rw [add_plain, Nat.zero_add, cell_of_row _ _ _ _ _ _ h]
  simpa using hu
theorem moreW_one : ∀ u ∈ cellsS moreW, u.oneCell' = true := by
  intro u hu
  simp only [cellsS, List.mem_map] at hu
  obtain ⟨x, _, rfl⟩ := hu
  rfl

set_option maxRecDepth 100000 in
set_option maxHeartbeats 4000000 in
theorem words_any (tb : Nat) (w : World) (ht : TapeAt w tb) : Calls Tryz.prog 17 #[.pointer (some ⟨tb, 0, none⟩)] w (WsPost tb w) := by
  obtain ⟨i0, hi, hz0, hz1, hz2⟩ := infoS_parts
  have hlt := ht.lt
  have HT := Lib.hid ht
  have HN := Lib.hid (fun (n : Int) W (h : TapeAt W tb) (h1 : 1 ≤ n) (h2 : n ≤ 4611686018427387904) => N_any tb n W h h1 h2)
  clear ht
  go_enter Tryz.func17, Tryz.ntmps17
  go_wp2_with (first
    | (go_at_call 40; refine (rarWords_any _).mono ?_; rintro e w1 ⟨rfl, rfl⟩)
    | (at_builtin; refine wpList_append_own _ rfl _ _ 37 rfl w.heap.size 9 i0 (.string ⟨#[]⟩) 1 16 Tryz.underlying37 hi hz0 hz1 hz2 rfl (by decide) _ _ _ rfl ((kindW_owns w).alloc _) ⟨w.heap.size + 1, 0, none⟩ 11 11 (cellsS moreW) rfl rfl (moreW_cells w _) moreW_one (by unfold maxLen; omega) (by omega) (by simp; omega) ?_; intro v4 w4 hown4 hgr4 _; obtain ⟨g, cap, rfl, hg0, hcap⟩ := owns_shape hown4 (by omega)))
  have hi4 : WsInv w tb g w4 := wsinv_new hlt HT.out (((Below.refl _ w).alloc (Nat.le_refl _) _).alloc (by simp) _) hgr4 (fun r e => by cases e; exact Nat.le_refl _) hown4
  have HI4 := Lib.hid hi4
  clear hown4 hgr4 hi4
  refine (HN.out 8 _ HI4.out.tape (by omega) (by omega)).mono ?_
  rintro e w5 ⟨r5, rfl, r50, r51, t5, g5⟩
  have HI5 := Lib.hid (HI4.out.turn t5 g5)
  obtain ⟨k5, hk5⟩ : ∃ k : Nat, r5 = k := ⟨r5.toNat, by omega⟩
  subst hk5
  clear t5 g5 HI4
  go_wp2_with fail
  go_loopw [4, 5] (fun o i wr => ∃ (k : Nat) (t : ByteArray), o = .string t ∧ i = .int .i64 k ∧ k ≤ 7 ∧ t.size + 9 * k ≤ 63 ∧ Hid (WsInv w tb g wr)) (fun _ i _ => (RowKit.intOf i).toNat)
  case atStart => exact ⟨k5, ⟨#[]⟩, rfl, rfl, by omega, by show 0 + 9 * k5 ≤ 63; omega, HI5⟩
  case round =>
    obtain ⟨k, t, rfl, rfl, hk7, hsz, HI⟩ := hrel
    by_cases hk : 0 < k
    · have hk1 : (0 : Int) < (k : Int) := by omega
      go_wp2_with fail
      refine (HN.out 22 _ HI.out.tape (by omega) (by omega)).mono ?_
      rintro e w6 ⟨r6, rfl, r60, r61, t6, g6⟩
      have HI6 := Lib.hid (HI.out.turn t6 g6)
      obtain ⟨j, rfl⟩ : ∃ j : Nat, r6 = j := ⟨r6.toNat, by omega⟩
      obtain ⟨x, hx, hx8⟩ := HI6.out.row j (by omega)
      clear t6 g6 HI
      by_cases hk2 : 1 < k
      · have hk3 : (1 : Int) < (k : Int) := by omega
        go_wp2_with fail
        exact ⟨⟨k - 1, t ++ x ++ ⟨#[32]⟩, rfl, by congr 1; omega, by omega, by simp only [ByteArray.size_append]; have : (⟨#[32]⟩ : ByteArray).size = 1 := rfl; omega, HI6⟩, by simp [RowKit.intOf]; omega⟩
      · obtain rfl : k = 1 := by omega
        have hk3 : ¬ (1 : Int) < ((1 : Nat) : Int) := by omega
        go_wp2_with fail
        refine (HN.out 8 _ HI6.out.tape (by omega) (by omega)).mono ?_
        rintro e w7 ⟨r7, rfl, r70, r71, t7, g7⟩
        have HI7 := Lib.hid (HI6.out.turn t7 g7)
        clear t7 g7 HI6
        by_cases h7 : r7 = 7
        · subst h7
          go_wp2_with fail
          exact ⟨⟨0, t ++ x ++ ⟨#[32]⟩, rfl, rfl, by omega, by simp only [ByteArray.size_append]; have : (⟨#[32]⟩ : ByteArray).size = 1 := rfl; omega, HI7⟩, by simp [RowKit.intOf]⟩
        · have h7b : (r7 == 7) = false := by rw [beq_eq_false_iff_ne]; exact h7
          go_wp2_with fail
          exact ⟨⟨0, t ++ x, rfl, rfl, by omega, by simp only [ByteArray.size_append]; have : (⟨#[32]⟩ : ByteArray).size = 1 := rfl; omega, HI7⟩, by simp [RowKit.intOf]⟩
    · obtain rfl : k = 0 := by omega
      go_wp2
      go_ret
      exact ⟨t, rfl, by omega, HI.out.tape, HI.out.old⟩

end Go.Proofs.YtdgckdmgplpobaaGreatDoor
