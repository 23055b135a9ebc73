/- The walk of ArticleOrders: the order of made articles is total; for every list of numbers. -/
import Derived.Test.YtkfjjmfajeianaaGreatDoorFMkArt
import Derived.Test.YtkfjjmfajeianaaGreatDoorFG4
import Derived.Test.YtkfjjmfajeianaaGreatDoorFG3
namespace Go.Proofs.YtkfjjmfajeianaaGreatDoor
open Go.RowKit Go.Lib Go.Proofs

theorem heads_at {w w2 : World} {tb n : Nat} {v : Value} {hs : List Head} {ls : List (List Nat)} (ho : w2.ownsRow w.heap.size 55 2 v hs.length (cellsH hs)) (ht : TreeHs n ls hs) (hlt : tb < w.heap.size) :
    ∃ g cap cs, v = .slice (some ⟨g, 0, none⟩) hs.length cap ∧ hs.length ≤ cap ∧ w.heap.size ≤ g ∧ g < w2.heap.size ∧ HeadsAt w2 tb g hs.length cs ∧ ∀ j, j < hs.length → isCodeB (cs.getD j ⟨#[]⟩) = true := by
  have hl : hs.length = ls.length := by
    have := congrArg List.length ht.codes
    rwa [List.length_map, texts_len] at this
  have h2 := ht.pos
  obtain ⟨g, cap, rfl, hg, hc⟩ := owns_shape ho (by omega)
  have hg2 : g < w2.heap.size := (ho.lt g rfl).2
  refine ⟨g, cap, texts ls, rfl, hc, hg, hg2, fun W hW j hj => ?_, fun j hj => ?_⟩
  · obtain ⟨c1, _⟩ := cellsH_get hs j hj
    rw [grownBy_cell' hW hg2 (by omega), ho.cellAt (j * 2) (by omega), c1]
    have e : hs[j].1 = (texts ls).getD j ⟨#[]⟩ := by
      rw [← ht.codes, List.getD_eq_getElem?_getD, List.getElem?_map, List.getElem?_eq_getElem hj]
      rfl
    rw [e]
  · have hjl : j < ls.length := by omega
    have e : (texts ls).getD j ⟨#[]⟩ = codeT ls[j] := by simp [texts, List.getD_eq_getElem?_getD, hjl]
    rw [e]
    exact isCodeB_codeT (ht.ok.good _ (List.getElem_mem hjl))

theorem HeadsAt.turn {w w' : World} {tb g m : Nat} {cs : List ByteArray} (h : HeadsAt w tb g m cs) (hg : w.grownBy w' (some tb)) : HeadsAt w' tb g m cs := fun W hW => h W (grownBy_trans hg hW)

theorem below_turn {w A B : World} {tb : Nat} (h : Below w.heap.size w A) (hg : A.grownBy B (some tb)) (htb : w.heap.size ≤ tb) : Below w.heap.size w B :=
  ⟨hg.os.trans h.os, hg.tape.trans h.tape, hg.output.trans h.output, Nat.le_trans h.size hg.size, fun k hk => (hg.block k (by have := h.size; omega) (fun e => by injection e; omega)).trans (h.block k hk)⟩

theorem none_text (k : Int) (h : k = 0 ∨ k = 99) : textA { Art.none with kind := k } = ⟨#[]⟩ := by
  unfold textA
  rcases h with rfl | rfl <;> rfl

theorem cb_three : ∀ a b : List UInt8, compareBytes a b = -1 ∨ compareBytes a b = 0 ∨ compareBytes a b = 1
  | [], [] => by simp [compareBytes]
  | [], _ :: _ => by simp [compareBytes]
  | _ :: _, [] => by simp [compareBytes]
  | x :: a, y :: b => by
    have ih := cb_three a b
    simp only [compareBytes]
    split
    · exact Or.inl rfl
    · split
      · exact Or.inr (Or.inr rfl)
      · exact ih
theorem cmpA_three (a b : Art) : cmpA a b = -1 ∨ cmpA a b = 0 ∨ cmpA a b = 1 := by
  unfold cmpA
  split
  · unfold compareInt
    split
    · exact Or.inl rfl
    · split
      · exact Or.inr (Or.inr rfl)
      · exact Or.inr (Or.inl rfl)
  · exact cb_three _ _

/-- Three articles stand in new blocks. -/
structure ThreeInv (w : World) (ca cb cc : Array Value) (W : World) : Prop where
  a : W.heap[w.heap.size]? = some (.cells ca 24 (0, 0))
  b : W.heap[w.heap.size + 1]? = some (.cells cb 24 (0, 0))
  c : W.heap[w.heap.size + 1 + 1]? = some (.cells cc 24 (0, 0))
  old : Below w.heap.size w W
theorem ThreeInv.later {w : World} {ca cb cc : Array Value} {A B : World} (h : ThreeInv w ca cb cc A) (hb : Below A.heap.size A B) : ThreeInv w ca cb cc B :=
  ⟨(hb.block _ (Array.getElem?_eq_some_iff.1 h.a).1).trans h.a, (hb.block _ (Array.getElem?_eq_some_iff.1 h.b).1).trans h.b, (hb.block _ (Array.getElem?_eq_some_iff.1 h.c).1).trans h.c, h.old.trans (hb.mono h.old.size)⟩
theorem ThreeInv.drew {w : World} {ca cb cc : Array Value} {A : World} (h : ThreeInv w ca cb cc A) : ThreeInv w ca cb cc A.drew := ⟨h.a, h.b, h.c, h.old.drew⟩
theorem ThreeInv.new (w : World) (ca cb cc : Array Value) : ThreeInv w ca cb cc (((w.alloc (.cells ca 24)).alloc (.cells cb 24)).alloc (.cells cc 24)) := by
  have e1 : (w.alloc (.cells ca 24)).heap.size = w.heap.size + 1 := by simp
  have e2 : ((w.alloc (.cells ca 24)).alloc (.cells cb 24)).heap.size = w.heap.size + 1 + 1 := by simp
  refine ⟨?_, ?_, ?_, (((Below.refl _ w).alloc (Nat.le_refl _) _).alloc (by simp) _).alloc (by simp; omega) _⟩
  · rw [Below.heap_alloc _ _ _ (by simp; omega), Below.heap_alloc _ _ _ (by simp)]; exact heap_alloc_new w _
  · rw [Below.heap_alloc _ _ _ (by simp)]
    have := heap_alloc_new (w.alloc (.cells ca 24)) (.cells cb 24)
    rwa [e1] at this
  · have := heap_alloc_new ((w.alloc (.cells ca 24)).alloc (.cells cb 24)) (.cells cc 24)
    rwa [e2] at this
theorem ThreeInv.cells {w : World} {ca cb cc : Array Value} {A : World} (h : ThreeInv w ca cb cc A) : (∀ j, A.cell? ⟨w.heap.size, j, none⟩ = ca[j]?) ∧ (∀ j, A.cell? ⟨w.heap.size + 1, j, none⟩ = cb[j]?) ∧ (∀ j, A.cell? ⟨w.heap.size + 1 + 1, j, none⟩ = cc[j]?) := ⟨fun j => art_cell h.a j, fun j => art_cell h.b j, fun j => art_cell h.c j⟩

set_option maxRecDepth 100000 in
set_option maxHeartbeats 8000000 in
theorem lawArtOrders_any (v : Value) (n : Nat) (w : World) (hi : IntsAt w v n w.heap.size) (hn : n ≤ 9223372036854775807) (hL : Lay w) :
    Calls Tryz.prog 5 #[v] w fun e w' => e = .returned (.bool true) ∧ Below w.heap.size w w' := by
  have HNEW := Lib.hid (New_any v n w hi hn)
  clear hi hn
  go_enter Tryz.func5, Tryz.ntmps5
  go_wp2_with fail
  refine (HNEW.out).mono ?_
  rintro e w1 ⟨rfl, t1, b1⟩
  have HT := Lib.hid (Tree_any w.heap.size 6 w1 t1 (by omega))
  have hw1 : w.heap.size < w1.heap.size := t1.lt
  have B1 := Lib.hid b1
  have HL := Lib.hid hL
  clear t1 b1 HNEW hL
  go_wp2_with fail
  refine (HT.out).mono ?_
  rintro e w2 ⟨l, ls, hs, rfl, t2, o2, htree, g2⟩
  obtain ⟨g, cap, cs, rfl, hcap, hg1, hglt, hheads, hcodes⟩ := heads_at (tb := w.heap.size) o2 htree (by omega)
  have hlen : 1 ≤ hs.length ∧ hs.length ≤ 1000 := by
    have hl : hs.length = ls.length := by
      have := congrArg List.length htree.codes
      rwa [List.length_map, texts_len] at this
    have := htree.pos
    have := htree.len
    omega
  have hb2 : Below w.heap.size w w2 := below_turn B1.out g2 (Nat.le_refl _)
  obtain ⟨m, hm⟩ : ∃ m, m = hs.length := ⟨_, rfl⟩
  rw [← hm] at hcap hheads hcodes hlen ⊢
  have HMK := Lib.hid (fun W (hT : TapeAt W w.heap.size) (hH : HeadsAt W w.heap.size g m cs) (hgl : g < W.heap.size) => mkArticle_any w.heap.size g m cap cs 12 3 W hT hH hgl hlen hcap hcodes (by omega) (by omega) (by omega))
  have HB2 := Lib.hid hb2
  have HH2 := Lib.hid hheads
  have HT2 := Lib.hid t2
  clear hm o2 htree g2 hb2 hheads t2 HT B1 hcodes hlen hcap hg1
  go_wp2_with fail
  refine (HMK.out _ HT2.out HH2.out hglt).mono ?_
  rintro e w3 ⟨a, rfl, pa, t3, g3⟩
  have HH3 := Lib.hid (HH2.out.turn g3)
  have HB3 := Lib.hid (below_turn HB2.out g3 (Nat.le_refl _))
  have hgl3 : g < w3.heap.size := Nat.lt_of_lt_of_le hglt g3.size
  have HT3 := Lib.hid t3
  clear t3 g3 HB2 HH2 HT2
  go_wp2_with fail
  refine (HMK.out _ HT3.out HH3.out hgl3).mono ?_
  rintro e w4 ⟨b, rfl, pb, t4, g4⟩
  have HH4 := Lib.hid (HH3.out.turn g4)
  have HB4 := Lib.hid (below_turn HB3.out g4 (Nat.le_refl _))
  have hgl4 : g < w4.heap.size := Nat.lt_of_lt_of_le hgl3 g4.size
  have HT4 := Lib.hid t4
  clear t4 g4 HB3 HH3 HT3
  go_wp2_with fail
  refine (HMK.out _ HT4.out HH4.out hgl4).mono ?_
  rintro e w5 ⟨c, rfl, pc, t5, g5⟩
  have HB5 := Lib.hid (below_turn HB4.out g5 (Nat.le_refl _))
  clear t5 g5 HB4 HH4 HT4 HMK
  obtain ⟨ka, a1, a2, a3, a4, a5, a6, a7, a8, a9, a10⟩ := a
  obtain ⟨kb, b1, b2, b3, b4, b5, b6, b7, b8, b9, b10⟩ := b
  obtain ⟨kc, c1, c2, c3, c4, c5, c6, c7, c8, c9, c10⟩ := c
  obtain ⟨I, hI⟩ : ∃ I, I = ThreeInv w5 #[.int .i64 ka, .string a1, .string a2, .string a3, .int .i64 a4, .int .i64 a5, .int .i64 a6, .int .i64 a7, .int .i64 a8, .int .i64 a9, .int .i64 a10] #[.int .i64 kb, .string b1, .string b2, .string b3, .int .i64 b4, .int .i64 b5, .int .i64 b6, .int .i64 b7, .int .i64 b8, .int .i64 b9, .int .i64 b10] #[.int .i64 kc, .string c1, .string c2, .string c3, .int .i64 c4, .int .i64 c5, .int .i64 c6, .int .i64 c7, .int .i64 c8, .int .i64 c9, .int .i64 c10] := ⟨_, rfl⟩
  have hlater : ∀ A B, I A → Below A.heap.size A B → I B := by rw [hI]; exact fun A B h hb => h.later hb
  have hold : ∀ A, I A → Below w5.heap.size w5 A := by rw [hI]; exact fun A h => h.old
  have hdrew : ∀ A, I A → I A.drew := by rw [hI]; exact fun A h => h.drew
  have hcells : ∀ A, I A → (∀ j, A.cell? ⟨w5.heap.size, j, none⟩ = #[.int .i64 ka, .string a1, .string a2, .string a3, .int .i64 a4, .int .i64 a5, .int .i64 a6, .int .i64 a7, .int .i64 a8, .int .i64 a9, .int .i64 a10][j]?) ∧ (∀ j, A.cell? ⟨w5.heap.size + 1, j, none⟩ = #[.int .i64 kb, .string b1, .string b2, .string b3, .int .i64 b4, .int .i64 b5, .int .i64 b6, .int .i64 b7, .int .i64 b8, .int .i64 b9, .int .i64 b10][j]?) ∧ (∀ j, A.cell? ⟨w5.heap.size + 1 + 1, j, none⟩ = #[.int .i64 kc, .string c1, .string c2, .string c3, .int .i64 c4, .int .i64 c5, .int .i64 c6, .int .i64 c7, .int .i64 c8, .int .i64 c9, .int .i64 c10][j]?) := by rw [hI]; exact fun A h => h.cells
  have hnew : I (((w5.alloc (.cells #[.int .i64 ka, .string a1, .string a2, .string a3, .int .i64 a4, .int .i64 a5, .int .i64 a6, .int .i64 a7, .int .i64 a8, .int .i64 a9, .int .i64 a10] 24)).alloc (.cells #[.int .i64 kb, .string b1, .string b2, .string b3, .int .i64 b4, .int .i64 b5, .int .i64 b6, .int .i64 b7, .int .i64 b8, .int .i64 b9, .int .i64 b10] 24)).alloc (.cells #[.int .i64 kc, .string c1, .string c2, .string c3, .int .i64 c4, .int .i64 c5, .int .i64 c6, .int .i64 c7, .int .i64 c8, .int .i64 c9, .int .i64 c10] 24)) := by rw [hI]; exact ThreeInv.new _ _ _ _
  clear hI
  have hlay : ∀ W, I W → Lay W := fun W hW => HL.out.below (HB5.out.trans ((hold W hW).mono HB5.out.size)) (Nat.le_refl _)
  have cmp : ∀ (x y : Art), ArtFit x → ArtFit y → ∀ W, I W → Calls Tryz.prog 17 #[.agg x.cells, .agg y.cells] W fun e w' => e = .returned (.int .i64 (cmpA x y)) ∧ I w' := by
    intro x y hx hy W hW
    obtain ⟨x0, x1, x2, x3, x4, x5, x6, x7, x8, x9, x10⟩ := x
    obtain ⟨y0, y1, y2, y3, y4, y5, y6, y7, y8, y9, y10⟩ := y
    exact (compare_any _ _ _ _ _ _ _ _ _ _ _ _ _ _ _ _ _ _ _ _ _ _ W (hlay W hW) hx hy).mono fun e w' h => ⟨h.1, hlater _ _ hW h.2⟩
  have fa := (plain_bd pa).fit
  have fb := (plain_bd pb).fit
  have fc := (plain_bd pc).fit
  have fn : ∀ k : Int, (k = 0 ∨ k = 99) → ArtFit { Art.none with kind := k } := fun k hk => art_fit _ (by constructor <;> simp [Art.none]) (Nat.zero_le _) (Nat.zero_le _) (Nat.zero_le _)
  have cab := cmp _ _ fa fb
  have cbc := cmp _ _ fb fc
  have cac := cmp _ _ fa fc
  have cba := cmp _ _ fb fa
  have cna := cmp { Art.none with kind := 0 } _ (fn 0 (by omega)) fa
  have cnn := cmp { Art.none with kind := 99 } { Art.none with kind := 0 } (fn 99 (by omega)) (fn 0 (by omega))
  have caw := fun W (hW : I W) => (awake04_any W (hlay W hW)).mono fun e w' (h : e = .returned (.bool true) ∧ Below W.heap.size W w') => (show e = .returned (.bool true) ∧ I w' from ⟨h.1, hlater _ _ hW h.2⟩)
  have e1 : cmpA { Art.none with kind := 0 } ⟨ka, a1, a2, a3, a4, a5, a6, a7, a8, a9, a10⟩ = -1 := by
    rw [cmpA_zero_text _ _ (none_text 0 (by omega))]
    cases h : (textA ⟨ka, a1, a2, a3, a4, a5, a6, a7, a8, a9, a10⟩).data.toList with
    | nil => exact absurd (ByteArray.ext (Array.toList_inj.1 h)) pa
    | cons x l => rfl
  have e2 : cmpA { Art.none with kind := 99 } { Art.none with kind := 0 } = 0 := by
    rw [cmpA_zero_text _ _ (none_text 99 (by omega)), none_text 0 (by omega)]
    rfl
  have m1 := cmpA_anti ⟨kb, b1, b2, b3, b4, b5, b6, b7, b8, b9, b10⟩ ⟨ka, a1, a2, a3, a4, a5, a6, a7, a8, a9, a10⟩
  have m2 := cmpA_trans _ _ _ pa pb pc
  have m3 : ka < kb → cmpA ⟨ka, a1, a2, a3, a4, a5, a6, a7, a8, a9, a10⟩ ⟨kb, b1, b2, b3, b4, b5, b6, b7, b8, b9, b10⟩ = -1 := fun h => by
    unfold cmpA
    rw [if_pos ⟨pa, pb, by simp only [ne_eq]; omega⟩]
    unfold compareInt
    rw [if_pos h]
  have m4 := cmpA_three ⟨ka, a1, a2, a3, a4, a5, a6, a7, a8, a9, a10⟩ ⟨kb, b1, b2, b3, b4, b5, b6, b7, b8, b9, b10⟩
  rw [e1] at cna
  rw [e2] at cnn
  rw [m1] at cba
  generalize cmpA ⟨ka, a1, a2, a3, a4, a5, a6, a7, a8, a9, a10⟩ ⟨kb, b1, b2, b3, b4, b5, b6, b7, b8, b9, b10⟩ = x at *
  generalize cmpA ⟨kb, b1, b2, b3, b4, b5, b6, b7, b8, b9, b10⟩ ⟨kc, c1, c2, c3, c4, c5, c6, c7, c8, c9, c10⟩ = y at *
  generalize cmpA ⟨ka, a1, a2, a3, a4, a5, a6, a7, a8, a9, a10⟩ ⟨kc, c1, c2, c3, c4, c5, c6, c7, c8, c9, c10⟩ = z at *
  simp only [Art.cells, Art.none] at cab cbc cac cba cna cnn ⊢
  have Hab := Lib.hid cab
  have Hbc := Lib.hid cbc
  have Hac := Lib.hid cac
  have Hba := Lib.hid cba
  have Hna := Lib.hid cna
  have Hnn := Lib.hid cnn
  have Haw := Lib.hid caw
  have HCE := Lib.hid hcells
  have HDR := Lib.hid hdrew
  have HOL := Lib.hid hold
  have HNW := Lib.hid hnew
  clear cab cbc cac cba cna cnn caw cmp fa fb fc fn e1 e2 hlay m1 pa pb pc hcells hdrew hold hnew hlater
  go_upto_region 4 with fail
  have hnew := HNW.out
  go_region_held3 (fun W => (∀ j, W.cell? ⟨w5.heap.size, j, none⟩ = #[.int .i64 ka, .string a1, .string a2, .string a3, .int .i64 a4, .int .i64 a5, .int .i64 a6, .int .i64 a7, .int .i64 a8, .int .i64 a9, .int .i64 a10][j]?) ∧ (∀ j, W.cell? ⟨w5.heap.size + 1, j, none⟩ = #[.int .i64 kb, .string b1, .string b2, .string b3, .int .i64 b4, .int .i64 b5, .int .i64 b6, .int .i64 b7, .int .i64 b8, .int .i64 b9, .int .i64 b10][j]?) ∧ (∀ j, W.cell? ⟨w5.heap.size + 1 + 1, j, none⟩ = #[.int .i64 kc, .string c1, .string c2, .string c3, .int .i64 c4, .int .i64 c5, .int .i64 c6, .int .i64 c7, .int .i64 c8, .int .i64 c9, .int .i64 c10][j]?))
    (first | exact HCE.out _ (by assumption) | exact HCE.out _ (HDR.out _ (by assumption)))
    (first
      | (go_at_call 17; (with_reducible refine (Hab.out _ (by first | assumption | exact HDR.out _ (by assumption))).mono ?_); rintro e w' ⟨rfl, hinv⟩)
      | (go_at_call 17; (with_reducible refine (Hbc.out _ (by first | assumption | exact HDR.out _ (by assumption))).mono ?_); rintro e w' ⟨rfl, hinv⟩)
      | (go_at_call 17; (with_reducible refine (Hac.out _ (by first | assumption | exact HDR.out _ (by assumption))).mono ?_); rintro e w' ⟨rfl, hinv⟩))
  have hce := HCE.out _ (by assumption)
  have HI := Lib.hid (show I w' by assumption)
  have p0 := hce.1
  have p1 := hce.2.1
  clear hce hnew HNW Hab Hbc Hac HDR
  by_cases hk : ka < kb
  · obtain rfl := m3 hk
    by_cases hy : y ≤ 0
    · have hz : z ≤ 0 := m2 (by omega) hy
      clear m2 m3 m4
      go_wp2_with (first
    | (go_at_call 17; (first | with_reducible refine (Hba.out _ HI.out).mono ?_ | with_reducible refine (Hna.out _ HI.out).mono ?_ | with_reducible refine (Hnn.out _ HI.out).mono ?_); rintro e wq ⟨rfl, hq⟩; have hce := HCE.out _ hq; have d0 := hce.1 0; have d1 := hce.2.1 0; have g0 := hce.1 1; have g1 := hce.1 2; have g2 := hce.1 3; have g3 := hce.1 4; have g4 := hce.1 5; have g5 := hce.1 6; have g6 := hce.1 7; have g7 := hce.1 8; have g8 := hce.1 9; have g9 := hce.1 10; replace HI := Lib.hid hq; clear hq hce)
    | (go_at_call 8; with_reducible refine (Haw.out _ HI.out).mono ?_; rintro e wq ⟨rfl, hq⟩; replace HI := Lib.hid hq; clear hq))
      go_ret
      exact ⟨rfl, HB5.out.trans ((HOL.out _ HI.out).mono HB5.out.size)⟩
    · clear m2 m3 m4
      go_wp2_with (first
    | (go_at_call 17; (first | with_reducible refine (Hba.out _ HI.out).mono ?_ | with_reducible refine (Hna.out _ HI.out).mono ?_ | with_reducible refine (Hnn.out _ HI.out).mono ?_); rintro e wq ⟨rfl, hq⟩; have hce := HCE.out _ hq; have d0 := hce.1 0; have d1 := hce.2.1 0; have g0 := hce.1 1; have g1 := hce.1 2; have g2 := hce.1 3; have g3 := hce.1 4; have g4 := hce.1 5; have g5 := hce.1 6; have g6 := hce.1 7; have g7 := hce.1 8; have g8 := hce.1 9; have g9 := hce.1 10; replace HI := Lib.hid hq; clear hq hce)
    | (go_at_call 8; with_reducible refine (Haw.out _ HI.out).mono ?_; rintro e wq ⟨rfl, hq⟩; replace HI := Lib.hid hq; clear hq))
      go_ret
      exact ⟨rfl, HB5.out.trans ((HOL.out _ HI.out).mono HB5.out.size)⟩
  · rcases m4 with rfl | rfl | rfl
    all_goals
      by_cases hy : y ≤ 0
      · by_cases hz : z ≤ 0
        · clear m2 m3
          go_wp2_with (first
    | (go_at_call 17; (first | with_reducible refine (Hba.out _ HI.out).mono ?_ | with_reducible refine (Hna.out _ HI.out).mono ?_ | with_reducible refine (Hnn.out _ HI.out).mono ?_); rintro e wq ⟨rfl, hq⟩; have hce := HCE.out _ hq; have d0 := hce.1 0; have d1 := hce.2.1 0; have g0 := hce.1 1; have g1 := hce.1 2; have g2 := hce.1 3; have g3 := hce.1 4; have g4 := hce.1 5; have g5 := hce.1 6; have g6 := hce.1 7; have g7 := hce.1 8; have g8 := hce.1 9; have g9 := hce.1 10; replace HI := Lib.hid hq; clear hq hce)
    | (go_at_call 8; with_reducible refine (Haw.out _ HI.out).mono ?_; rintro e wq ⟨rfl, hq⟩; replace HI := Lib.hid hq; clear hq))
          go_ret
          exact ⟨rfl, HB5.out.trans ((HOL.out _ HI.out).mono HB5.out.size)⟩
        · first
            | (exfalso; have := m2 (by omega) hy; omega)
            | (clear m2 m3
               go_wp2_with (first
    | (go_at_call 17; (first | with_reducible refine (Hba.out _ HI.out).mono ?_ | with_reducible refine (Hna.out _ HI.out).mono ?_ | with_reducible refine (Hnn.out _ HI.out).mono ?_); rintro e wq ⟨rfl, hq⟩; have hce := HCE.out _ hq; have d0 := hce.1 0; have d1 := hce.2.1 0; have g0 := hce.1 1; have g1 := hce.1 2; have g2 := hce.1 3; have g3 := hce.1 4; have g4 := hce.1 5; have g5 := hce.1 6; have g6 := hce.1 7; have g7 := hce.1 8; have g8 := hce.1 9; have g9 := hce.1 10; replace HI := Lib.hid hq; clear hq hce)
    | (go_at_call 8; with_reducible refine (Haw.out _ HI.out).mono ?_; rintro e wq ⟨rfl, hq⟩; replace HI := Lib.hid hq; clear hq))
               go_ret
               exact ⟨rfl, HB5.out.trans ((HOL.out _ HI.out).mono HB5.out.size)⟩)
      · clear m2 m3
        go_wp2_with (first
    | (go_at_call 17; (first | with_reducible refine (Hba.out _ HI.out).mono ?_ | with_reducible refine (Hna.out _ HI.out).mono ?_ | with_reducible refine (Hnn.out _ HI.out).mono ?_); rintro e wq ⟨rfl, hq⟩; have hce := HCE.out _ hq; have d0 := hce.1 0; have d1 := hce.2.1 0; have g0 := hce.1 1; have g1 := hce.1 2; have g2 := hce.1 3; have g3 := hce.1 4; have g4 := hce.1 5; have g5 := hce.1 6; have g6 := hce.1 7; have g7 := hce.1 8; have g8 := hce.1 9; have g9 := hce.1 10; replace HI := Lib.hid hq; clear hq hce)
    | (go_at_call 8; with_reducible refine (Haw.out _ HI.out).mono ?_; rintro e wq ⟨rfl, hq⟩; replace HI := Lib.hid hq; clear hq))
        go_ret
        exact ⟨rfl, HB5.out.trans ((HOL.out _ HI.out).mono HB5.out.size)⟩

end Go.Proofs.YtkfjjmfajeianaaGreatDoor
