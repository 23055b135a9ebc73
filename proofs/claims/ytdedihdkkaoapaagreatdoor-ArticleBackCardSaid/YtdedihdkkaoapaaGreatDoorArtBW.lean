/- The walk of ArticleBack: a plain article comes back from its text, two have the same text exactly if they are the same, and what Parse hands back has the text that it read; for every list of numbers and every text. -/
import Derived.Test.YtdedihdkkaoapaaGreatDoorG4
import Derived.Test.YtdedihdkkaoapaaGreatDoorRplA
namespace Go.Proofs.YtdedihdkkaoapaaGreatDoor
open Go.RowKit Go.Lib Go.Proofs

theorem art_eql_no (w : World) (a b : Art) (h : a ≠ b) : (binOp .eql 24 (.agg a.cells) (.agg b.cells)).run Tryz.prog w = .ok (.bool false) w := by
  have := art_differ w a b h
  rw [run_neq_struct] at this
  rw [run_eql_struct]
  cases hr : (Op.equalIn 10000 24 (.agg a.cells) (.agg b.cells)).run Tryz.prog w with
  | ok v w' =>
    rw [hr] at this
    simp only [Result.andThen_ok, Result.ok.injEq, Value.bool.injEq, Bool.not_eq_true'] at this ⊢
    exact this
  | _ => rw [hr] at this; cases this

theorem cmpA_eq {a b : Art} (ha : textA a ≠ ⟨#[]⟩) (hb : textA b ≠ ⟨#[]⟩) : cmpA a b = 0 ↔ a = b := by
  constructor
  · intro h
    unfold cmpA at h
    split at h
    · unfold compareInt at h
      rename_i hk
      have := hk.2.2
      split at h
      · cases h
      · split at h
        · cases h
        · omega
    · have := (cb_zero _ _).1 h
      exact text_inj ha (ByteArray.ext (Array.toList_inj.1 this))
  · rintro rfl
    unfold cmpA
    rw [if_neg fun h => h.2.2 rfl]
    exact (cb_zero _ _).2 rfl

theorem back_d {a b : Art} (pa : textA a ≠ ⟨#[]⟩) (pb : textA b ≠ ⟨#[]⟩) : ∃ d : Bool, (∀ W, (binOp .eql 24 (.agg a.cells) (.agg b.cells)).run Tryz.prog W = .ok (.bool d) W) ∧ ((textA a).toList == (textA b).toList) = d ∧ (cmpA a b == 0) = d := by
  by_cases h : a = b
  · subst h
    exact ⟨true, fun W => art_eq W a, strEq_true rfl, by rw [(cmpA_eq pa pa).2 rfl]; rfl⟩
  · exact ⟨false, fun W => art_eql_no W a b h, strEq_false fun e => h (text_inj pa e), by rw [beq_eq_false_iff_ne]; exact fun e => h ((cmpA_eq pa pb).1 e)⟩

/-- Three articles stand in new blocks behind w5, a tape in block tb. -/
structure BackInv (w : World) (tb p q r : Nat) (a b x : Art) (W : World) : Prop where
  a : ArtAt W p a
  b : ArtAt W q b
  x : ArtAt W r x
  old : Below w.heap.size w W
  tape : TapeAt W tb
theorem BackInv.later {w : World} {tb p q r : Nat} {a b x : Art} {A B : World} (h : BackInv w tb p q r a b x A) (hb : Below A.heap.size A B) : BackInv w tb p q r a b x B :=
  ⟨h.a.below hb, h.b.below hb, h.x.below hb, h.old.trans (hb.mono h.old.size), h.tape.below hb⟩
theorem BackInv.drew {w : World} {tb p q r : Nat} {a b x : Art} {A : World} (h : BackInv w tb p q r a b x A) : BackInv w tb p q r a b x A.drew := h.later (Below.refl _ _).drew

theorem text_size {a : Art} (h : ArtFit a) : (textA a).size ≤ 1000000 := by
  unfold textA
  cases hf : formOf a with
  | none => exact Nat.zero_le _
  | some f =>
    simp only
    split
    · exact write_size f (List.mem_of_find?_eq_some hf) a (h.sm f (List.mem_of_find?_eq_some hf))
    · exact Nat.zero_le _

theorem backinv_zero {w w4 : World} {tb : Nat} (a b : Art) (hb : Below w.heap.size w w4) (ht : TapeAt w4 tb) :
    ArtAt ((w4.alloc (.cells a.cells 24)).alloc (.cells b.cells 24)) w4.heap.size a ∧ ArtAt ((w4.alloc (.cells a.cells 24)).alloc (.cells b.cells 24)) (w4.heap.size + 1) b ∧ Below w.heap.size w ((w4.alloc (.cells a.cells 24)).alloc (.cells b.cells 24)) ∧ TapeAt ((w4.alloc (.cells a.cells 24)).alloc (.cells b.cells 24)) tb := by
  have e1 : (w4.alloc (.cells a.cells 24)).heap.size = w4.heap.size + 1 := by simp
  refine ⟨?_, ?_, (hb.alloc hb.size _).alloc (by have := hb.size; simp; omega) _, (ht.below (below_alloc _ _)).below (below_alloc _ _)⟩
  · exact (Below.heap_alloc _ _ _ (by simp)).trans (heap_alloc_new w4 _)
  · have := heap_alloc_new (w4.alloc (.cells a.cells 24)) (.cells b.cells 24)
    rwa [e1] at this

/-- Two texts stand in block g. -/
structure TwoInv (w : World) (g : Nat) (W : World) : Prop where
  row : ∀ j : Nat, j < 2 → ∃ y, W.cell? ⟨g, j, none⟩ = some (.string y) ∧ y.size ≤ 1000
  old : Below w.heap.size w W
  lt : g < W.heap.size
theorem TwoInv.later {w : World} {g : Nat} {A B : World} (h : TwoInv w g A) (hb : Below A.heap.size A B) : TwoInv w g B := by
  refine ⟨fun j hj => ?_, h.old.trans (hb.mono h.old.size), Nat.lt_of_lt_of_le h.lt hb.size⟩
  obtain ⟨y, h1, h2⟩ := h.row j hj
  exact ⟨y, by rw [hb.cell (p := ⟨g, j, none⟩) h.lt]; exact h1, h2⟩
theorem TwoInv.new {w W : World} (s t : ByteArray) (hb : Below w.heap.size w W) (h1 : s.size ≤ 1000) (h2 : t.size ≤ 1000) : TwoInv w W.heap.size (W.alloc (.cells #[.string s, .string t] 9)) := by
  refine ⟨fun j hj => ?_, hb.alloc hb.size _, by simp⟩
  rw [cell_of_row _ _ _ _ _ _ (heap_alloc_new W _)]
  rcases (by omega : j = 0 ∨ j = 1) with rfl | rfl
  · exact ⟨s, rfl, h1⟩
  · exact ⟨t, rfl, h2⟩

set_option maxRecDepth 100000 in
set_option maxHeartbeats 8000000 in
theorem lawArtBack_any (v : Value) (n : Nat) (s : ByteArray) (w : World) (hi : IntsAt w v n w.heap.size) (hn : n ≤ 9223372036854775807) (_ : s.size ≤ maxLen) (hL : Lay w) :
    Calls Tryz.prog 4 #[v, .string s] w fun e w' => e = .returned (.bool true) ∧ Below w.heap.size w w' := by
  have HNEW := Lib.hid (New_any v n w hi hn)
  have HL := Lib.hid hL
  clear hi hn hL
  by_cases hlong : 1000 < s.size
  · have HAW := Lib.hid (awake04_any w HL.out)
    have h1 : (1000 : Int) < (s.size : Int) := by omega
    clear HNEW
    go_enter Tryz.func4, Tryz.ntmps4
    go_wp2_with fail
    refine (HAW.out).mono ?_
    rintro e w1 ⟨rfl, hb⟩
    have HB := Lib.hid hb
    clear hb
    go_wp2_with fail
    go_ret
    exact ⟨rfl, HB.out⟩
  have h1 : ¬ (1000 : Int) < (s.size : Int) := by omega
  have hs1 : s.size ≤ 1000 := by omega
  clear hlong
  go_enter Tryz.func4, Tryz.ntmps4
  go_wp2_with fail
  refine (HNEW.out).mono ?_
  rintro e w1 ⟨rfl, t1, b1⟩
  have HT := Lib.hid (Tree_any w.heap.size 6 w1 t1 (by omega))
  have hw1 : w.heap.size < w1.heap.size := t1.lt
  have B1 := Lib.hid b1
  clear t1 b1 HNEW
  go_wp2_with fail
  refine (HT.out).mono ?_
  rintro e w2 ⟨l, ls, hs, rfl, t2, o2, htree, g2⟩
  obtain ⟨g, cap, cs, rfl, hcap, hg1, hglt, hheads, hcodes⟩ := heads_at (tb := w.heap.size) o2 htree (by omega)
  have hlen : 1 ≤ hs.length ∧ hs.length ≤ 1000 := by
    have hl : hs.length = ls.length := by
      have := congrArg List.length htree.codes
      rwa [List.length_map, texts_len] at this
    have := htree.pos
    have := htree.len
    omega
  have hb2 : Below w.heap.size w w2 := below_turn B1.out g2 (Nat.le_refl _)
  obtain ⟨m, hm⟩ : ∃ m, m = hs.length := ⟨_, rfl⟩
  rw [← hm] at hcap hheads hcodes hlen ⊢
  have HMK := Lib.hid (fun W (hT : TapeAt W w.heap.size) (hH : HeadsAt W w.heap.size g m cs) (hgl : g < W.heap.size) => mkArticle_any w.heap.size g m cap cs 12 3 W hT hH hgl hlen hcap hcodes (by omega) (by omega) (by omega))
  have HB2 := Lib.hid hb2
  have HH2 := Lib.hid hheads
  have HT2 := Lib.hid t2
  clear hm o2 htree g2 hb2 hheads t2 HT B1 hcodes hlen hcap hg1
  go_wp2_with fail
  refine (HMK.out _ HT2.out HH2.out hglt).mono ?_
  rintro e w3 ⟨a, rfl, pa, t3, g3⟩
  have HH3 := Lib.hid (HH2.out.turn g3)
  have HB3 := Lib.hid (below_turn HB2.out g3 (Nat.le_refl _))
  have hgl3 : g < w3.heap.size := Nat.lt_of_lt_of_le hglt g3.size
  have HT3 := Lib.hid t3
  clear t3 g3 HB2 HH2 HT2
  go_wp2_with fail
  refine (HMK.out _ HT3.out HH3.out hgl3).mono ?_
  rintro e w4 ⟨b, rfl, pb, t4, g4⟩
  have hb4 := below_turn HB3.out g4 (Nat.le_refl _)
  have h0 := backinv_zero a b hb4 t4
  have H0 := Lib.hid h0
  have hlt4 : w.heap.size < w4.heap.size := t4.lt
  have hgl4 : g < w4.heap.size := Nat.lt_of_lt_of_le hgl3 g4.size
  clear t4 g4 HB3 HH3 HT3 HMK hb4 h0
  have fa := (plain_bd pa).fit
  have fb := (plain_bd pb).fit
  have HPS := Lib.hid (fun W hW => arParse_any (textA a) W hW (text_size fa))
  have hpt := text_parse pa
  rw [hpt] at HPS
  obtain ⟨d, d1, d2, d3⟩ := back_d pa pb
  clear hpt
  obtain ⟨ka, a1, a2, a3, a4, a5, a6, a7, a8, a9, a10⟩ := a
  obtain ⟨kb, b1, b2, b3, b4, b5, b6, b7, b8, b9, b10⟩ := b
  have hla : ∀ W, Below w.heap.size w W → Lay W := fun W hW => HL.out.below hW (Nat.le_refl _)
  have cta := fun W (hW : Below w.heap.size w W) => text_fit ka a1 a2 a3 a4 a5 a6 a7 a8 a9 a10 W (hla W hW) fa
  have ctb := fun W (hW : Below w.heap.size w W) => text_fit kb b1 b2 b3 b4 b5 b6 b7 b8 b9 b10 W (hla W hW) fb
  have cpa := fun W (hW : Below w.heap.size w W) => plain_any ka a1 a2 a3 a4 a5 a6 a7 a8 a9 a10 W (hla W hW) fa
  have ccp := fun W (hW : Below w.heap.size w W) => compare_any ka a1 a2 a3 a4 a5 a6 a7 a8 a9 a10 kb b1 b2 b3 b4 b5 b6 b7 b8 b9 b10 W (hla W hW) fa fb
  have cps := fun W (hW : Below w.heap.size w W) => (HPS.out W (hla W hW)).mono fun e w' h => (show e = .returned (.tuple #[.agg #[.int .i64 ka, .string a1, .string a2, .string a3, .int .i64 a4, .int .i64 a5, .int .i64 a6, .int .i64 a7, .int .i64 a8, .int .i64 a9, .int .i64 a10], .int .i64 0]) ∧ Below W.heap.size W w' from h)
  have htaE := strEq_false pa
  have d0 := fun W => art_same W ⟨ka, a1, a2, a3, a4, a5, a6, a7, a8, a9, a10⟩
  generalize textA ⟨ka, a1, a2, a3, a4, a5, a6, a7, a8, a9, a10⟩ = xa at *
  generalize textA ⟨kb, b1, b2, b3, b4, b5, b6, b7, b8, b9, b10⟩ = xb at *
  generalize cmpA ⟨ka, a1, a2, a3, a4, a5, a6, a7, a8, a9, a10⟩ ⟨kb, b1, b2, b3, b4, b5, b6, b7, b8, b9, b10⟩ = x at *
  have hb1 : (!(xa.toList == (⟨#[]⟩ : ByteArray).toList)) = true := by rw [htaE]; rfl
  simp only [hb1] at cpa
  simp only [Art.cells] at d0 d1 ⊢
  have h00 := H0.out
  have ua := art_cell h00.1
  have ub := art_cell h00.2.1
  simp only [Art.cells] at ua ub
  have HTA := Lib.hid cta
  have HTB := Lib.hid ctb
  have HPL := Lib.hid cpa
  have HCP := Lib.hid ccp
  have HPA := Lib.hid cps
  clear cta ctb cpa ccp cps htaE hb1 HPS pa pb fa fb hla h00
  go_wp2_with fail
  refine (HTA.out _ H0.out.2.2.1).mono ?_
  rintro e w5 ⟨rfl, hb5⟩
  have H5 : Hid (ArtAt w5 w4.heap.size ⟨ka, a1, a2, a3, a4, a5, a6, a7, a8, a9, a10⟩ ∧ ArtAt w5 (w4.heap.size + 1) ⟨kb, b1, b2, b3, b4, b5, b6, b7, b8, b9, b10⟩ ∧ Below w.heap.size w w5 ∧ TapeAt w5 w.heap.size) := Lib.hid ⟨H0.out.1.below hb5, H0.out.2.1.below hb5, H0.out.2.2.1.trans (hb5.mono H0.out.2.2.1.size), H0.out.2.2.2.below hb5⟩
  clear hb5 H0 ua ub
  go_wp2_with fail
  refine (HPA.out _ H5.out.2.2.1).mono ?_
  rintro e w6 ⟨rfl, hb6⟩
  have hb7 : Below w5.heap.size w5 (w6.alloc (.cells #[.int .i64 ka, .string a1, .string a2, .string a3, .int .i64 a4, .int .i64 a5, .int .i64 a6, .int .i64 a7, .int .i64 a8, .int .i64 a9, .int .i64 a10] 24)) := hb6.alloc hb6.size _
  have hnew0 : BackInv w w.heap.size w4.heap.size (w4.heap.size + 1) w6.heap.size ⟨ka, a1, a2, a3, a4, a5, a6, a7, a8, a9, a10⟩ ⟨kb, b1, b2, b3, b4, b5, b6, b7, b8, b9, b10⟩ ⟨ka, a1, a2, a3, a4, a5, a6, a7, a8, a9, a10⟩ (w6.alloc (.cells #[.int .i64 ka, .string a1, .string a2, .string a3, .int .i64 a4, .int .i64 a5, .int .i64 a6, .int .i64 a7, .int .i64 a8, .int .i64 a9, .int .i64 a10] 24)) := ⟨H5.out.1.below hb7, H5.out.2.1.below hb7, heap_alloc_new w6 _, H5.out.2.2.1.trans (hb7.mono H5.out.2.2.1.size), H5.out.2.2.2.below hb7⟩
  obtain ⟨I, hI⟩ : ∃ I, I = BackInv w w.heap.size w4.heap.size (w4.heap.size + 1) w6.heap.size ⟨ka, a1, a2, a3, a4, a5, a6, a7, a8, a9, a10⟩ ⟨kb, b1, b2, b3, b4, b5, b6, b7, b8, b9, b10⟩ ⟨ka, a1, a2, a3, a4, a5, a6, a7, a8, a9, a10⟩ := ⟨_, rfl⟩
  have hlater : ∀ A B, I A → Below A.heap.size A B → I B := by rw [hI]; exact fun A B h hb => h.later hb
  have hold : ∀ A, I A → Below w.heap.size w A := by rw [hI]; exact fun A h => h.old
  have htape : ∀ A, I A → TapeAt A w.heap.size := by rw [hI]; exact fun A h => h.tape
  have hdrew : ∀ A, I A → I A.drew := by rw [hI]; exact fun A h => h.drew
  have hcells : ∀ W, I W → (∀ j, W.cell? ⟨w4.heap.size, j, none⟩ = #[.int .i64 ka, .string a1, .string a2, .string a3, .int .i64 a4, .int .i64 a5, .int .i64 a6, .int .i64 a7, .int .i64 a8, .int .i64 a9, .int .i64 a10][j]?) ∧ (∀ j, W.cell? ⟨w4.heap.size + 1, j, none⟩ = #[.int .i64 kb, .string b1, .string b2, .string b3, .int .i64 b4, .int .i64 b5, .int .i64 b6, .int .i64 b7, .int .i64 b8, .int .i64 b9, .int .i64 b10][j]?) ∧ (∀ j, W.cell? ⟨w6.heap.size, j, none⟩ = #[.int .i64 ka, .string a1, .string a2, .string a3, .int .i64 a4, .int .i64 a5, .int .i64 a6, .int .i64 a7, .int .i64 a8, .int .i64 a9, .int .i64 a10][j]?) := by rw [hI]; exact fun A h => ⟨fun j => art_cell h.a j, fun j => art_cell h.b j, fun j => art_cell h.x j⟩
  have hnew : I (w6.alloc (.cells #[.int .i64 ka, .string a1, .string a2, .string a3, .int .i64 a4, .int .i64 a5, .int .i64 a6, .int .i64 a7, .int .i64 a8, .int .i64 a9, .int .i64 a10] 24)) := by rw [hI]; exact hnew0
  have HTA2 := Lib.hid (fun W (hW : I W) => (HTA.out W (hold W hW)).mono fun e w' h => (show _ ∧ I w' from ⟨h.1, hlater _ _ hW h.2⟩))
  have HTB2 := Lib.hid (fun W (hW : I W) => (HTB.out W (hold W hW)).mono fun e w' h => (show _ ∧ I w' from ⟨h.1, hlater _ _ hW h.2⟩))
  have HPL2 := Lib.hid (fun W (hW : I W) => (HPL.out W (hold W hW)).mono fun e w' h => (show _ ∧ I w' from ⟨h.1, hlater _ _ hW h.2⟩))
  have HCP2 := Lib.hid (fun W (hW : I W) => (HCP.out W (hold W hW)).mono fun e w' h => (show _ ∧ I w' from ⟨h.1, hlater _ _ hW h.2⟩))
  have HCE := Lib.hid hcells
  have HDR := Lib.hid hdrew
  have HOL := Lib.hid hold
  have HTP := Lib.hid htape
  have HNW := Lib.hid hnew
  clear hI hlater hold htape hdrew hcells hnew hnew0 hb6 hb7 H5 HTA HTB HPL HCP HPA
  go_upto_region 7 with fail
  have hnew := HNW.out
  go_region_held3 (fun W => (∀ j, W.cell? ⟨w4.heap.size, j, none⟩ = #[.int .i64 ka, .string a1, .string a2, .string a3, .int .i64 a4, .int .i64 a5, .int .i64 a6, .int .i64 a7, .int .i64 a8, .int .i64 a9, .int .i64 a10][j]?) ∧ (∀ j, W.cell? ⟨w4.heap.size + 1, j, none⟩ = #[.int .i64 kb, .string b1, .string b2, .string b3, .int .i64 b4, .int .i64 b5, .int .i64 b6, .int .i64 b7, .int .i64 b8, .int .i64 b9, .int .i64 b10][j]?) ∧ (∀ j, W.cell? ⟨w6.heap.size, j, none⟩ = #[.int .i64 ka, .string a1, .string a2, .string a3, .int .i64 a4, .int .i64 a5, .int .i64 a6, .int .i64 a7, .int .i64 a8, .int .i64 a9, .int .i64 a10][j]?))
    (first | exact HCE.out _ (by assumption) | exact HCE.out _ (HDR.out _ (by assumption)))
    (first
      | (go_at_call 11; (with_reducible refine (HPL2.out _ (by first | assumption | exact HDR.out _ (by assumption))).mono ?_); rintro e w' ⟨rfl, hinv⟩)
      | (go_at_call 13; (first | (with_reducible refine (HTA2.out _ (by first | assumption | exact HDR.out _ (by assumption))).mono ?_) | (with_reducible refine (HTB2.out _ (by first | assumption | exact HDR.out _ (by assumption))).mono ?_)); rintro e w' ⟨rfl, hinv⟩)
      | (go_at_call 15; (with_reducible refine (HCP2.out _ (by first | assumption | exact HDR.out _ (by assumption))).mono ?_); rintro e w' ⟨rfl, hinv⟩))
  have HI := Lib.hid (show I w' by assumption)
  have hb7 := HOL.out _ HI.out
  have ht7 := HTP.out _ HI.out
  have HB7 := Lib.hid hb7
  have HT7 := Lib.hid ht7
  clear hb7 ht7 HI HTA2 HTB2 HPL2 HCP2 HCE HDR HOL HTP HNW hnew hinv d0 d1 d2 d3
  generalize w' = w7 at *
  go_wp2_with fail
  refine (words_any _ _ HT7.out).mono ?_
  rintro e w8 ⟨t2, rfl, ht2, t8, g8⟩
  have HB8 := Lib.hid (below_turn HB7.out g8 (Nat.le_refl _))
  have HTWO := Lib.hid (TwoInv.new s t2 HB8.out hs1 (by omega))
  clear HB7 HT7 t8 g8
  go_wp2_with fail
  go_loopw [73] (fun i wr => ∃ k : Nat, i = .int .i64 k ∧ k ≤ 2 ∧ Hid (TwoInv w w8.heap.size wr)) (fun i _ => 2 - (RowKit.intOf i).toNat)
  case atStart => exact ⟨0, rfl, by omega, HTWO⟩
  case round =>
    obtain ⟨k, rfl, hk2, HW⟩ := hrel
    by_cases hlt : k < 2
    · obtain ⟨y, hy, hy1⟩ := HW.out.row k hlt
      have hgl := HW.out.lt
      obtain ⟨r, hr⟩ : ∃ r, r = parseA y := ⟨_, rfl⟩
      have HPR := Lib.hid (arParse_any y wr (HL.out.below HW.out.old (Nat.le_refl _)) (by omega))
      rw [← hr] at HPR
      cases r with
      | none =>
        have q0 := fun W => art_same W Art.none
        simp only [Art.cells, Art.none] at q0
        clear hr
        go_wp2_with fail
        refine (HPR.out).mono ?_
        rintro e w9 ⟨he, hb⟩
        have he' : e = .returned (.tuple #[.agg #[.int .i64 0, .string ⟨#[]⟩, .string ⟨#[]⟩, .string ⟨#[]⟩, .int .i64 0, .int .i64 0, .int .i64 0, .int .i64 0, .int .i64 0, .int .i64 0, .int .i64 0], .int .i64 4]) := he
        subst he'
        have HN := Lib.hid (HW.out.later (hb.alloc hb.size (.cells #[.int .i64 0, .string ⟨#[]⟩, .string ⟨#[]⟩, .string ⟨#[]⟩, .int .i64 0, .int .i64 0, .int .i64 0, .int .i64 0, .int .i64 0, .int .i64 0, .int .i64 0] 24)))
        clear hb he
        go_wp2_with fail
        go_roundw
        case rel => exact ⟨k + 1, by first | rfl | go_num, by omega, HN⟩
        case measure => simp [RowKit.intOf]; omega
      | some z =>
        have hzt := parse_text hr.symm
        have HZN := Lib.hid (parse_ne hr.symm)
        have hfz := (plain_bd HZN.out).fit
        have HZP := Lib.hid (fun W => rpl_any z HZN.out W)
        obtain ⟨kz, z1, z2, z3, z4, z5, z6, z7, z8, z9, z10⟩ := z
        have HZT := Lib.hid (fun W (hW : Below w.heap.size w W) => text_fit kz z1 z2 z3 z4 z5 z6 z7 z8 z9 z10 W (HL.out.below hW (Nat.le_refl _)) hfz)
        rw [hzt] at HZT
        have hyy : (y.toList == y.toList) = true := by simp
        simp only [Art.cells] at HZP
        clear hr hzt hfz HZN
        go_wp2_with fail
        refine (HPR.out).mono ?_
        rintro e w9 ⟨he, hb⟩
        have he' : e = .returned (.tuple #[.agg #[.int .i64 kz, .string z1, .string z2, .string z3, .int .i64 z4, .int .i64 z5, .int .i64 z6, .int .i64 z7, .int .i64 z8, .int .i64 z9, .int .i64 z10], .int .i64 0]) := he
        subst he'
        have HN9 := Lib.hid (HW.out.later (hb.alloc hb.size (.cells #[.int .i64 kz, .string z1, .string z2, .string z3, .int .i64 z4, .int .i64 z5, .int .i64 z6, .int .i64 z7, .int .i64 z8, .int .i64 z9, .int .i64 z10] 24)))
        clear hb he HPR
        go_wp2_with fail
        refine (HZT.out _ HN9.out.old).mono ?_
        rintro e w10 ⟨rfl, hb10⟩
        have HN10 := Lib.hid (HN9.out.later hb10)
        have uz := (hb10.block _ (by simp)).trans (heap_alloc_new w9 (.cells #[.int .i64 kz, .string z1, .string z2, .string z3, .int .i64 z4, .int .i64 z5, .int .i64 z6, .int .i64 z7, .int .i64 z8, .int .i64 z9, .int .i64 z10] 24))
        have z0 := art_cell uz 0
        have z1' := art_cell uz 1
        have z2' := art_cell uz 2
        have z3' := art_cell uz 3
        have z4' := art_cell uz 4
        have z5' := art_cell uz 5
        have z6' := art_cell uz 6
        have z7' := art_cell uz 7
        have z8' := art_cell uz 8
        have z9' := art_cell uz 9
        have z10' := art_cell uz 10
        simp at z0 z1' z2' z3' z4' z5' z6' z7' z8' z9' z10'
        clear hb10 uz HN9
        go_wp2_with fail
        refine (HZP.out _).mono ?_
        rintro e w11 ⟨rfl, hb11⟩
        have HN11 := Lib.hid (HN10.out.later hb11)
        clear hb11 HN10
        go_wp2_with fail
        go_roundw
        case rel => exact ⟨k + 1, by first | rfl | go_num, by omega, HN11⟩
        case measure => simp [RowKit.intOf]; omega
    · obtain rfl : k = 2 := by omega
      have HAW := Lib.hid (awake04_any wr (HL.out.below HW.out.old (Nat.le_refl _)))
      go_wp2_with fail
      refine (HAW.out).mono ?_
      rintro e w9 ⟨rfl, hb⟩
      have HB9 := Lib.hid (HW.out.old.trans (hb.mono HW.out.old.size))
      clear hb
      go_wp2_with fail
      go_ret
      exact ⟨rfl, HB9.out⟩

end Go.Proofs.YtdedihdkkaoapaaGreatDoor
