/- Texts of one claim, merged: ArtCmp, ArtOrd, ArtFit, ArtRt, ArtBk, ArtMd, MkPlain, Tap, Range, RclM, Rcl, RclC, With, TreeM, Pick. -/
import Derived.Test.YtdgckdmgplpobaaGreatDoorMArtText
import Derived.Deep.RegionHeld3
import Derived.Test.YtdgckdmgplpobaaGreatDoorMG1
/- The contracts of article.Plain and article.Compare. -/
set_option linter.unusedSimpArgs false
set_option linter.unusedVariables false
namespace Go.Proofs.YtdgckdmgplpobaaGreatDoor
open Go.RowKit Go.Lib Go.Proofs

structure ArtFit (a : Art) : Prop where
  bd : ArtBd a
  sm : ∀ f ∈ formsL, ∀ p ∈ f.parts, (wordOf a p).size ≤ 100000

theorem text_fit (kd : Int) (cd ot nm : ByteArray) (yr am pc nu dy ls wh : Int) (w : World) (hL : Lay w) (h : ArtFit ⟨kd, cd, ot, nm, yr, am, pc, nu, dy, ls, wh⟩) :
    Calls Tryz.prog 12 #[.agg #[.int .i64 kd, .string cd, .string ot, .string nm, .int .i64 yr, .int .i64 am, .int .i64 pc, .int .i64 nu, .int .i64 dy, .int .i64 ls, .int .i64 wh]] w fun e w' => e = .returned (.string (textA ⟨kd, cd, ot, nm, yr, am, pc, nu, dy, ls, wh⟩)) ∧ Below w.heap.size w w' := text_any kd cd ot nm yr am pc nu dy ls wh w hL h.bd h.sm

noncomputable def cmpA (a b : Art) : Int := if textA a ≠ ⟨#[]⟩ ∧ textA b ≠ ⟨#[]⟩ ∧ a.kind ≠ b.kind then Lib.compareInt a.kind b.kind else Lib.compareBytes (textA a).data.toList (textA b).data.toList

theorem plain_any (kd : Int) (cd ot nm : ByteArray) (yr am pc nu dy ls wh : Int) (w : World) (hL : Lay w) (h : ArtFit ⟨kd, cd, ot, nm, yr, am, pc, nu, dy, ls, wh⟩) :
    Calls Tryz.prog 10 #[.agg #[.int .i64 kd, .string cd, .string ot, .string nm, .int .i64 yr, .int .i64 am, .int .i64 pc, .int .i64 nu, .int .i64 dy, .int .i64 ls, .int .i64 wh]] w fun e w' => e = .returned (.bool (!((textA ⟨kd, cd, ot, nm, yr, am, pc, nu, dy, ls, wh⟩).toList == (⟨#[]⟩ : ByteArray).toList))) ∧ Below w.heap.size w w' := by
  have HT := Lib.hid (fun W hW => text_fit kd cd ot nm yr am pc nu dy ls wh W hW h)
  obtain ⟨t, ht⟩ : ∃ t, t = textA ⟨kd, cd, ot, nm, yr, am, pc, nu, dy, ls, wh⟩ := ⟨_, rfl⟩
  rw [← ht] at HT ⊢
  have HL := Lib.hid hL
  clear ht hL h
  go_enter Tryz.func10, Tryz.ntmps10
  go_wp2_with fail
  refine (HT.out _ (HL.out.below ((Below.refl _ w).alloc (Nat.le_refl _) _) (Nat.le_refl _))).mono ?_
  rintro e w' ⟨rfl, hb⟩
  have HB : Hid (Below w.heap.size w w') := Lib.hid (((Below.refl _ w).alloc (Nat.le_refl _) _).trans (hb.mono (by simp)))
  clear hb
  go_wp2_with fail
  go_ret
  exact ⟨by first | rfl | simp, HB.out⟩

structure CmpInv (w : World) (ca cb : Array Value) (W : World) : Prop where
  a : W.heap[w.heap.size]? = some (.cells ca 24 (0, 0))
  b : W.heap[w.heap.size + 1]? = some (.cells cb 24 (0, 0))
  old : Below w.heap.size w W
theorem CmpInv.later {w : World} {ca cb : Array Value} {A B : World} (h : CmpInv w ca cb A) (hb : Below A.heap.size A B) : CmpInv w ca cb B :=
  ⟨(hb.block _ (Array.getElem?_eq_some_iff.1 h.a).1).trans h.a, (hb.block _ (Array.getElem?_eq_some_iff.1 h.b).1).trans h.b, h.old.trans (hb.mono h.old.size)⟩
theorem CmpInv.drew {w : World} {ca cb : Array Value} {A : World} (h : CmpInv w ca cb A) : CmpInv w ca cb A.drew := ⟨h.a, h.b, h.old.drew⟩
theorem CmpInv.new (w : World) (ca cb : Array Value) : CmpInv w ca cb ((w.alloc (.cells ca 24)).alloc (.cells cb 24)) := by
  refine ⟨?_, ?_, ((Below.refl _ w).alloc (Nat.le_refl _) _).alloc (by simp) _⟩
  · rw [Below.heap_alloc _ _ _ (by simp)]; exact heap_alloc_new w _
  · have := heap_alloc_new (w.alloc (.cells ca 24)) (.cells cb 24)
    rwa [World.size_alloc] at this
theorem CmpInv.cells {w : World} {ca cb : Array Value} {A : World} (h : CmpInv w ca cb A) : (∀ j, A.cell? ⟨w.heap.size, j, none⟩ = ca[j]?) ∧ (∀ j, A.cell? ⟨w.heap.size + 1, j, none⟩ = cb[j]?) := ⟨fun j => art_cell h.a j, fun j => art_cell h.b j⟩

set_option maxRecDepth 100000 in
set_option maxHeartbeats 4000000 in
theorem compare_any (kd : Int) (cd ot nm : ByteArray) (yr am pc nu dy ls wh : Int) (kd' : Int) (cd' ot' nm' : ByteArray) (yr' am' pc' nu' dy' ls' wh' : Int) (w : World) (hL : Lay w) (h : ArtFit ⟨kd, cd, ot, nm, yr, am, pc, nu, dy, ls, wh⟩) (h' : ArtFit ⟨kd', cd', ot', nm', yr', am', pc', nu', dy', ls', wh'⟩) :
    Calls Tryz.prog 14 #[.agg #[.int .i64 kd, .string cd, .string ot, .string nm, .int .i64 yr, .int .i64 am, .int .i64 pc, .int .i64 nu, .int .i64 dy, .int .i64 ls, .int .i64 wh], .agg #[.int .i64 kd', .string cd', .string ot', .string nm', .int .i64 yr', .int .i64 am', .int .i64 pc', .int .i64 nu', .int .i64 dy', .int .i64 ls', .int .i64 wh']] w fun e w' => e = .returned (.int .i64 (cmpA ⟨kd, cd, ot, nm, yr, am, pc, nu, dy, ls, wh⟩ ⟨kd', cd', ot', nm', yr', am', pc', nu', dy', ls', wh'⟩)) ∧ Below w.heap.size w w' := by
  have hc : cmpA ⟨kd, cd, ot, nm, yr, am, pc, nu, dy, ls, wh⟩ ⟨kd', cd', ot', nm', yr', am', pc', nu', dy', ls', wh'⟩ = if textA ⟨kd, cd, ot, nm, yr, am, pc, nu, dy, ls, wh⟩ ≠ ⟨#[]⟩ ∧ textA ⟨kd', cd', ot', nm', yr', am', pc', nu', dy', ls', wh'⟩ ≠ ⟨#[]⟩ ∧ kd ≠ kd' then Lib.compareInt kd kd' else Lib.compareBytes (textA ⟨kd, cd, ot, nm, yr, am, pc, nu, dy, ls, wh⟩).data.toList (textA ⟨kd', cd', ot', nm', yr', am', pc', nu', dy', ls', wh'⟩).data.toList := rfl
  have hx : ∀ W, CmpInv w #[.int .i64 kd, .string cd, .string ot, .string nm, .int .i64 yr, .int .i64 am, .int .i64 pc, .int .i64 nu, .int .i64 dy, .int .i64 ls, .int .i64 wh] #[.int .i64 kd', .string cd', .string ot', .string nm', .int .i64 yr', .int .i64 am', .int .i64 pc', .int .i64 nu', .int .i64 dy', .int .i64 ls', .int .i64 wh'] W → Calls Tryz.prog 12 #[.agg #[.int .i64 kd, .string cd, .string ot, .string nm, .int .i64 yr, .int .i64 am, .int .i64 pc, .int .i64 nu, .int .i64 dy, .int .i64 ls, .int .i64 wh]] W fun e w' => e = .returned (.string (textA ⟨kd, cd, ot, nm, yr, am, pc, nu, dy, ls, wh⟩)) ∧ CmpInv w #[.int .i64 kd, .string cd, .string ot, .string nm, .int .i64 yr, .int .i64 am, .int .i64 pc, .int .i64 nu, .int .i64 dy, .int .i64 ls, .int .i64 wh] #[.int .i64 kd', .string cd', .string ot', .string nm', .int .i64 yr', .int .i64 am', .int .i64 pc', .int .i64 nu', .int .i64 dy', .int .i64 ls', .int .i64 wh'] w' := fun W hW => (text_fit kd cd ot nm yr am pc nu dy ls wh W (hL.below hW.old (Nat.le_refl _)) h).mono fun e w' hp => ⟨hp.1, hW.later hp.2⟩
  have hy : ∀ W, CmpInv w #[.int .i64 kd, .string cd, .string ot, .string nm, .int .i64 yr, .int .i64 am, .int .i64 pc, .int .i64 nu, .int .i64 dy, .int .i64 ls, .int .i64 wh] #[.int .i64 kd', .string cd', .string ot', .string nm', .int .i64 yr', .int .i64 am', .int .i64 pc', .int .i64 nu', .int .i64 dy', .int .i64 ls', .int .i64 wh'] W → Calls Tryz.prog 12 #[.agg #[.int .i64 kd', .string cd', .string ot', .string nm', .int .i64 yr', .int .i64 am', .int .i64 pc', .int .i64 nu', .int .i64 dy', .int .i64 ls', .int .i64 wh']] W fun e w' => e = .returned (.string (textA ⟨kd', cd', ot', nm', yr', am', pc', nu', dy', ls', wh'⟩)) ∧ CmpInv w #[.int .i64 kd, .string cd, .string ot, .string nm, .int .i64 yr, .int .i64 am, .int .i64 pc, .int .i64 nu, .int .i64 dy, .int .i64 ls, .int .i64 wh] #[.int .i64 kd', .string cd', .string ot', .string nm', .int .i64 yr', .int .i64 am', .int .i64 pc', .int .i64 nu', .int .i64 dy', .int .i64 ls', .int .i64 wh'] w' := fun W hW => (text_fit kd' cd' ot' nm' yr' am' pc' nu' dy' ls' wh' W (hL.below hW.old (Nat.le_refl _)) h').mono fun e w' hp => ⟨hp.1, hW.later hp.2⟩
  have HI0 := Lib.hid (CmpInv.new w #[.int .i64 kd, .string cd, .string ot, .string nm, .int .i64 yr, .int .i64 am, .int .i64 pc, .int .i64 nu, .int .i64 dy, .int .i64 ls, .int .i64 wh] #[.int .i64 kd', .string cd', .string ot', .string nm', .int .i64 yr', .int .i64 am', .int .i64 pc', .int .i64 nu', .int .i64 dy', .int .i64 ls', .int .i64 wh'])
  obtain ⟨r, hr⟩ : ∃ r, r = cmpA ⟨kd, cd, ot, nm, yr, am, pc, nu, dy, ls, wh⟩ ⟨kd', cd', ot', nm', yr', am', pc', nu', dy', ls', wh'⟩ := ⟨_, rfl⟩
  rw [← hr] at hc ⊢
  obtain ⟨x, hxe⟩ : ∃ x, x = textA ⟨kd, cd, ot, nm, yr, am, pc, nu, dy, ls, wh⟩ := ⟨_, rfl⟩
  obtain ⟨y, hye⟩ : ∃ y, y = textA ⟨kd', cd', ot', nm', yr', am', pc', nu', dy', ls', wh'⟩ := ⟨_, rfl⟩
  rw [← hxe] at hc hx
  rw [← hye] at hc hy
  have HX := Lib.hid hx
  have HY := Lib.hid hy
  have HC := Lib.hid hc
  clear hr hxe hye hc hx hy hL h h'
  go_enter Tryz.func14, Tryz.ntmps14
  go_upto_region 1 with fail
  have HIA := HI0.out
  have hcs := HIA.cells
  go_region_held3 (fun W => (∀ j, W.cell? ⟨w.heap.size, j, none⟩ = #[.int .i64 kd, .string cd, .string ot, .string nm, .int .i64 yr, .int .i64 am, .int .i64 pc, .int .i64 nu, .int .i64 dy, .int .i64 ls, .int .i64 wh][j]?) ∧ (∀ j, W.cell? ⟨w.heap.size + 1, j, none⟩ = #[.int .i64 kd', .string cd', .string ot', .string nm', .int .i64 yr', .int .i64 am', .int .i64 pc', .int .i64 nu', .int .i64 dy', .int .i64 ls', .int .i64 wh'][j]?))
    (first | exact CmpInv.cells (by assumption) | exact CmpInv.cells (CmpInv.drew (by assumption)))
    (first
      | (go_at_call 12; (with_reducible refine (HX.out _ (by first | assumption | exact CmpInv.drew (by assumption))).mono ?_); rintro e w' ⟨rfl, hinv⟩)
      | (go_at_call 12; (with_reducible refine (HY.out _ (by first | assumption | exact CmpInv.drew (by assumption))).mono ?_); rintro e w' ⟨rfl, hinv⟩))
  have e0 : w'.cell? ⟨w.heap.size, 0, none⟩ = some (.int .i64 kd) := hinv.cells.1 0
  have e1 : w'.cell? ⟨w.heap.size + 1, 0, none⟩ = some (.int .i64 kd') := hinv.cells.2 0
  have HI := Lib.hid hinv
  clear HIA hcs hinv
  by_cases h1 : x = ⟨#[]⟩
  · subst h1
    have hc : r = Lib.compareBytes (⟨#[]⟩ : ByteArray).data.toList y.data.toList := HC.out.trans (if_neg fun h => h.1 rfl)
    go_wp2_with (first
          | (go_at_call 45; refine (Tryz.strings_Compare _ _ _).mono ?_; rintro e w5 ⟨rfl, rfl⟩)
          | (go_at_call 44; refine (Tryz.cmp_Compare_int _ _ _).mono ?_; rintro e w5 ⟨rfl, rfl⟩))
    go_ret
    exact ⟨by first | (rw [hc]; rfl) | (rw [hc]; done) | (rw [hc]; simp; done), HI.out.old⟩
  · have q1 := strEq_false h1
    have q3 : ¬ x.toList = [] := fun e => h1 (by rw [ByteArray.toList_eq] at e; exact ByteArray.ext (Array.toList_inj.1 e))
    have q2 : (x.toList == []) = false := by rw [beq_eq_false_iff_ne]; exact q3
    by_cases h2 : y = ⟨#[]⟩
    · subst h2
      have hc : r = Lib.compareBytes x.data.toList (⟨#[]⟩ : ByteArray).data.toList := HC.out.trans (if_neg fun h => h.2.1 rfl)
      go_wp2_with (first
            | (go_at_call 45; refine (Tryz.strings_Compare _ _ _).mono ?_; rintro e w5 ⟨rfl, rfl⟩)
            | (go_at_call 44; refine (Tryz.cmp_Compare_int _ _ _).mono ?_; rintro e w5 ⟨rfl, rfl⟩))
      go_ret
      exact ⟨by first | (rw [hc]; rfl) | (rw [hc]; done) | (rw [hc]; simp; done), HI.out.old⟩
    · have p1 := strEq_false h2
      have p3 : ¬ y.toList = [] := fun e => h2 (by rw [ByteArray.toList_eq] at e; exact ByteArray.ext (Array.toList_inj.1 e))
      have p2 : (y.toList == []) = false := by rw [beq_eq_false_iff_ne]; exact p3
      by_cases h3 : kd = kd'
      · subst h3
        have hc : r = Lib.compareBytes x.data.toList y.data.toList := HC.out.trans (if_neg fun h => h.2.2 rfl)
        go_wp2_with (first
              | (go_at_call 45; refine (Tryz.strings_Compare _ _ _).mono ?_; rintro e w5 ⟨rfl, rfl⟩)
              | (go_at_call 44; refine (Tryz.cmp_Compare_int _ _ _).mono ?_; rintro e w5 ⟨rfl, rfl⟩))
        go_ret
        exact ⟨by first | (rw [hc]; rfl) | (rw [hc]; done) | (rw [hc]; simp; done), HI.out.old⟩
      · have hc : r = Lib.compareInt kd kd' := HC.out.trans (if_pos ⟨h1, h2, h3⟩)
        have k1 : (kd == kd') = false := by rw [beq_eq_false_iff_ne]; exact h3
        have k2 : (kd != kd') = true := by rw [bne_iff_ne]; exact h3
        go_wp2_with (first
              | (go_at_call 45; refine (Tryz.strings_Compare _ _ _).mono ?_; rintro e w5 ⟨rfl, rfl⟩)
              | (go_at_call 44; refine (Tryz.cmp_Compare_int _ _ _).mono ?_; rintro e w5 ⟨rfl, rfl⟩))
        go_ret
        exact ⟨by first | (rw [hc]; rfl) | (rw [hc]; done) | (rw [hc]; simp; done), HI.out.old⟩

end Go.Proofs.YtdgckdmgplpobaaGreatDoor

/- The order of articles, as mathematics: compareBytes is a total order, and so is cmpA. -/
namespace Go.Proofs.YtdgckdmgplpobaaGreatDoor
open Go.RowKit Go.Lib Go.Proofs

theorem cb_zero : ∀ a b : List UInt8, compareBytes a b = 0 ↔ a = b
  | [], [] => by simp [compareBytes]
  | [], _ :: _ => by simp [compareBytes]
  | _ :: _, [] => by simp [compareBytes]
  | x :: a, y :: b => by
    have ih := cb_zero a b
    simp only [compareBytes]
    by_cases h1 : x < y
    · have : x ≠ y := fun e => by subst e; rw [UInt8.lt_iff_toNat_lt] at h1; omega
      rw [if_pos h1]; simp [this]
    · rw [if_neg h1]
      by_cases h2 : y < x
      · have : x ≠ y := fun e => by subst e; rw [UInt8.lt_iff_toNat_lt] at h2; omega
        rw [if_pos h2]; simp [this]
      · have : x = y := UInt8.toNat_inj.1 (by rw [UInt8.lt_iff_toNat_lt] at h1 h2; omega)
        rw [if_neg h2, ih, this]; simp

end Go.Proofs.YtdgckdmgplpobaaGreatDoor

/- What Text asks of an article, out of the sizes of its words. -/
namespace Go.Proofs.YtdgckdmgplpobaaGreatDoor
open Go.RowKit Go.Lib Go.Proofs

theorem digits_len20 {u : Nat} (h : u < 100000000000000000000) : (decDigits u).length ≤ 20 := by
  rw [decDigits_length]
  exact nDigits_le 19 u (by simpa using h)

theorem itoaT_size (n : Int) (h0 : -9223372036854775808 ≤ n) (h1 : n ≤ 9223372036854775807) : (itoaT n).size ≤ 21 := by
  unfold itoaT
  rw [txt_size]
  unfold itoa
  split
  · have := digits_len20 (u := n.natAbs) (by omega)
    simp
    omega
  · have := digits_len20 (u := n.toNat) (by omega)
    simp
    omega

theorem dayT_size (d : Int) : (dayT d).size ≤ 100000 := by
  unfold dayT
  split
  · next h =>
    have := dayB_true.1 h
    rw [size_eq, dayText_list]
    have := digits_len (u := d.toNat / 360) (by omega)
    simp [twoL]
    omega
  · exact Nat.zero_le _

theorem lits_small : ∀ f ∈ formsL, (f.parts.all fun p => match p with | .lit w => decide (w.size ≤ 100) | _ => true) = true := by decide

theorem art_fit (a : Art) (hb : ArtBd a) (h1 : a.code.size ≤ 100000) (h2 : a.other.size ≤ 100000) (h3 : a.name.size ≤ 100000) : ArtFit a := by
  refine ⟨hb, fun f hf p hp => ?_⟩
  have hlit := List.all_eq_true.1 (lits_small f hf) p hp
  have i1 := itoaT_size a.year hb.y0 hb.y1
  have i2 := itoaT_size a.amount hb.a0 hb.a1
  have i3 := itoaT_size a.percent hb.p0 hb.p1
  have i4 := itoaT_size a.number hb.n0 hb.n1
  have i5 := itoaT_size a.least hb.l0 hb.l1
  have i6 := dayT_size a.day
  have hn : ∀ n w, (itoaT n).size ≤ 21 → w.size ≤ 10 → (numOr n w).size ≤ 100000 := fun n w h h' => by
    unfold numOr
    split <;> omega
  cases p with
  | code => exact h1
  | other => exact h2
  | name => exact h3
  | year => exact Nat.le_trans i1 (by decide)
  | span => exact hn _ _ i1 (by decide)
  | amount => exact Nat.le_trans i2 (by decide)
  | limit => exact hn _ _ i2 (by decide)
  | least => exact Nat.le_trans i5 (by decide)
  | percent => exact Nat.le_trans i3 (by decide)
  | number => exact Nat.le_trans i4 (by decide)
  | count => exact Nat.le_trans i4 (by decide)
  | day => exact i6
  | lit w =>
    have : w.size ≤ 100 := of_decide_eq_true hlit
    exact Nat.le_trans this (by decide)

end Go.Proofs.YtdgckdmgplpobaaGreatDoor

/- Articles and their texts, as mathematics: a part in its range comes back from its word, an article from its text, a text from its article; of no function of the program; no condition. -/
namespace Go.Proofs.YtdgckdmgplpobaaGreatDoor
open Go.RowKit Go.Lib Go.Proofs

theorem itoa_neg_head {n : Int} (h : n < 0) : ∃ r, (itoaT n).data.toList = 45 :: r := by
  unfold itoaT
  rw [txt_list]
  unfold itoa
  rw [if_pos h]
  exact ⟨_, rfl⟩
theorem numT_neg {n : Int} (h : n < 0) : numT (itoaT n) = none := numT_none.2 fun u _ e => by
  obtain ⟨r, hr⟩ := itoa_neg_head h
  rw [hr] at e
  have := digits_all u 45 (by rw [e]; simp)
  revert this; decide
theorem numT_nat {n : Int} (h0 : 0 ≤ n) (h1 : n < 1000000000000000) : numT (itoaT n) = some n.toNat := by
  have := numT_itoa (u := n.toNat) (by omega)
  rwa [Int.toNat_of_nonneg h0] at this
theorem numI_itoa {n : Int} (h0 : 0 ≤ n) (h1 : n < 1000000000000000) : numI (itoaT n) = n := by rw [numI_some (numT_nat h0 h1)]; omega
theorem inN_itoa (n lo hi : Int) (h0 : 0 ≤ lo) (h1 : hi < 1000000000000000) : inN (itoaT n) lo hi = true ↔ lo ≤ n ∧ n ≤ hi := by
  unfold inN
  by_cases hn : 0 ≤ n
  · by_cases hb : n < 1000000000000000
    · rw [numI_itoa hn hb, numT_nat hn hb]
      simp
    · have : numT (itoaT n) = none := numT_none.2 fun u hu e => by
        have h2 : (itoaT n).data.toList = decDigits n.toNat := by
          have := itoaT_nat n.toNat
          rwa [Int.toNat_of_nonneg hn] at this
        rw [h2] at e
        have := digits_inj e
        omega
      rw [this]
      simp
      omega
  · rw [numT_neg (by omega)]
    simp
    omega
theorem itoa_head (n : Int) : ∀ c r, (itoaT n).data.toList = c :: r → c = 45 ∨ digitB c = true := fun c r h => by
  by_cases hn : n < 0
  · obtain ⟨r', hr⟩ := itoa_neg_head hn
    rw [hr] at h
    injection h with h _
    exact Or.inl h.symm
  · have h2 : (itoaT n).data.toList = decDigits n.toNat := by
      have := itoaT_nat n.toNat
      rwa [Int.toNat_of_nonneg (by omega)] at this
    rw [h2] at h
    exact Or.inr (digits_all n.toNat c (by rw [h]; simp))
theorem itoa_all (n : Int) : itoaT n ≠ allT := fun h => by
  have := itoa_head n 97 [108, 108] (by rw [h]; rfl)
  revert this; decide
theorem itoa_none (n : Int) : itoaT n ≠ noneT := fun h => by
  have := itoa_head n 110 [111, 110, 101] (by rw [h]; rfl)
  revert this; decide
theorem inOr_or (n hi : Int) (t : ByteArray) (ht : ∀ m, itoaT m ≠ t) (h1 : hi < 1000000000000000) : inOr (numOr n t) hi t = true ↔ n = -1 ∨ 0 ≤ n ∧ n ≤ hi := by
  unfold inOr numOr
  by_cases h : n = -1
  · simp [h]
  · rw [if_neg h, decide_eq_false (ht n), Bool.false_or, inN_itoa _ _ _ (by omega) h1]
    simp [h]
theorem orI_or (n : Int) (t : ByteArray) (ht : ∀ m, itoaT m ≠ t) (h : n = -1 ∨ 0 ≤ n ∧ n < 1000000000000000) : orI (numOr n t) t = n := by
  unfold orI numOr
  by_cases h1 : n = -1
  · simp [h1]
  · rw [if_neg h1, if_neg (ht n), numI_itoa (by omega) (by omega)]
theorem inDay_day (d : Int) : inDay (dayT d) = true ↔ 0 ≤ d ∧ d ≤ 35990 := by
  unfold inDay dayT
  rw [decide_eq_true_iff]
  constructor
  · rintro ⟨k, hk, he⟩
    by_cases h : dayB d = true
    · rw [if_pos h] at he
      have h2 := dayB_true.1 h
      have := dayText_inj (by omega) (by omega) he
      omega
    · rw [if_neg h] at he
      have := congrArg (fun s : ByteArray => s.data.toList) he
      simp only [dayText_list] at this
      simp at this
  · intro h
    rw [if_pos (dayB_true.2 ⟨h.1, by omega⟩)]
    exact ⟨d.toNat, by omega, rfl⟩
theorem dayI_dayT {d : Int} (h0 : 0 ≤ d) (h1 : d ≤ 35990) : dayI' (dayT d) = d := by
  have hx : ∃ k : Nat, k ≤ 36000 ∧ dayText k = dayT d := ⟨d.toNat, by omega, by unfold dayT; rw [if_pos (dayB_true.2 ⟨h0, by omega⟩)]⟩
  unfold dayI'
  rw [dif_pos hx]
  obtain ⟨h2, h3⟩ := Classical.choose_spec hx
  have h4 : dayText (Classical.choose hx) = dayText d.toNat := by rw [h3]; unfold dayT; rw [if_pos (dayB_true.2 ⟨h0, by omega⟩)]
  have := dayText_inj h2 (by omega) h4
  omega

def okP (a : Art) : Fd → Prop
  | .code => isCodeB a.code = true
  | .other => isCodeB a.other = true
  | .name => nameB a.name = true
  | .year => 0 ≤ a.year ∧ a.year ≤ 99
  | .span => a.year = -1 ∨ 0 ≤ a.year ∧ a.year ≤ 99
  | .amount => 0 ≤ a.amount ∧ a.amount ≤ 1000000000000
  | .limit => a.amount = -1 ∨ 0 ≤ a.amount ∧ a.amount ≤ 1000000000000
  | .least => 0 ≤ a.least ∧ a.least ≤ 1000000000000
  | .percent => 0 ≤ a.percent ∧ a.percent ≤ 100
  | .number => 1 ≤ a.number ∧ a.number ≤ 1000000
  | .count => 1 ≤ a.number ∧ a.number ≤ 4
  | .day => 0 ≤ a.day ∧ a.day ≤ 35990
  | .lit _ => True

def setOf (x a : Art) : Fd → Art
  | .code => { x with code := a.code }
  | .other => { x with other := a.other }
  | .name => { x with name := a.name }
  | .year => { x with year := a.year }
  | .span => { x with year := a.year }
  | .amount => { x with amount := a.amount }
  | .limit => { x with amount := a.amount }
  | .least => { x with least := a.least }
  | .percent => { x with percent := a.percent }
  | .number => { x with number := a.number }
  | .count => { x with number := a.number }
  | .day => { x with day := a.day }
  | .lit _ => x

theorem takeOf_day2 (a : Art) (w : ByteArray) : (takeOf a .day w).2 = inDay w := by simp only [takeOf]
theorem takeOf_day1 (a : Art) (w : ByteArray) : (takeOf a .day w).1 = { a with day := dayI' w } := by simp only [takeOf]
theorem wordOf_day (a : Art) : wordOf a .day = dayT a.day := rfl

theorem take_ok (x a : Art) (p : Fd) : (takeOf x p (wordOf a p)).2 = true ↔ okP a p := by
  cases p with
  | code => exact Iff.rfl
  | other => exact Iff.rfl
  | name => exact Iff.rfl
  | year => rw [takeOf_year]; exact inN_itoa _ _ _ (by omega) (by omega)
  | span => rw [takeOf_span]; exact inOr_or _ _ _ itoa_all (by omega)
  | amount => rw [takeOf_amount]; exact inN_itoa _ _ _ (by omega) (by omega)
  | limit => rw [takeOf_limit]; exact inOr_or _ _ _ itoa_none (by omega)
  | least => rw [takeOf_least]; exact inN_itoa _ _ _ (by omega) (by omega)
  | percent => rw [takeOf_percent]; exact inN_itoa _ _ _ (by omega) (by omega)
  | number => rw [takeOf_number]; exact inN_itoa _ _ _ (by omega) (by omega)
  | count => rw [takeOf_count]; exact inN_itoa _ _ _ (by omega) (by omega)
  | day => rw [wordOf_day, takeOf_day2]; exact inDay_day _
  | lit w =>
    show decide (w = w) = true ↔ True
    simp

theorem take_set (x a : Art) (p : Fd) (h : okP a p) : (takeOf x p (wordOf a p)).1 = setOf x a p := by
  cases p with
  | code => rfl
  | other => rfl
  | name => rfl
  | year => rw [takeOf_year]; simp only [setOf, wordOf]; rw [numI_itoa h.1 (by have := h.2; omega)]
  | span => rw [takeOf_span]; simp only [setOf, wordOf]; rw [orI_or _ _ itoa_all (by have : a.year = -1 ∨ 0 ≤ a.year ∧ a.year ≤ 99 := h; omega)]
  | amount => rw [takeOf_amount]; simp only [setOf, wordOf]; rw [numI_itoa h.1 (by have := h.2; omega)]
  | limit => rw [takeOf_limit]; simp only [setOf, wordOf]; rw [orI_or _ _ itoa_none (by have : a.amount = -1 ∨ 0 ≤ a.amount ∧ a.amount ≤ 1000000000000 := h; omega)]
  | least => rw [takeOf_least]; simp only [setOf, wordOf]; rw [numI_itoa h.1 (by have := h.2; omega)]
  | percent => rw [takeOf_percent]; simp only [setOf, wordOf]; rw [numI_itoa h.1 (by have := h.2; omega)]
  | number => rw [takeOf_number]; simp only [setOf, wordOf]; rw [numI_itoa (by have := h.1; omega) (by have := h.2; omega)]
  | count => rw [takeOf_count]; simp only [setOf, wordOf]; rw [numI_itoa (by have := h.1; omega) (by have := h.2; omega)]
  | day =>
    rw [wordOf_day, takeOf_day1]
    simp only [setOf]
    rw [dayI_dayT h.1 h.2]
  | lit w => rfl

theorem readGo_words (a : Art) : ∀ (ps : List Fd) (x : Art), (∀ p ∈ ps, okP a p) → readGo x ps (ps.map (wordOf a)) = some (ps.foldl (fun y p => setOf y a p) x)
  | [], x, _ => rfl
  | p :: ps, x, h => by
    rw [List.map_cons, readGo_step, if_pos ((take_ok x a p).2 (h p (by simp))), take_set x a p (h p (by simp)), readGo_words a ps _ fun q hq => h q (by simp [hq])]
    rfl
theorem code_blank {s : ByteArray} (h : isCodeB s = true) : (32 : UInt8) ∉ s.data.toList := by
  obtain ⟨ns, hg, rfl⟩ := isCodeB_inv h
  unfold codeT
  rw [txt_list]
  have : ∀ (l : List Nat), (32 : UInt8) ∉ joinL 46 (l.map decDigits) := by
    intro l
    induction l with
    | nil => simp [joinL]
    | cons n l ih =>
      have hd : (32 : UInt8) ∉ decDigits n := fun hm => by
        have := digits_all n 32 hm
        revert this; decide
      cases l with
      | nil => simpa [joinL] using hd
      | cons m l =>
        simp only [List.map_cons, joinL, List.mem_append, List.mem_cons, not_or] at ih ⊢
        exact ⟨hd, by decide, ih⟩
  exact this ns
theorem itoa_blank' {n : Int} (h : 0 ≤ n) : (32 : UInt8) ∉ (itoaT n).data.toList := by
  have := itoa_blank n.toNat
  rwa [Int.toNat_of_nonneg h] at this
theorem day_blank {d : Int} (h0 : 0 ≤ d) (h1 : d ≤ 36000) : (32 : UInt8) ∉ (dayT d).data.toList := by
  unfold dayT
  rw [if_pos (dayB_true.2 ⟨h0, h1⟩), dayText_list]
  intro hm
  have h3 : ∀ n, (32 : UInt8) ∉ decDigits n := fun n hm => by
    have := digits_all n 32 hm
    revert this; decide
  have h4 : ∀ n, n < 100 → (32 : UInt8) ∉ twoL n := fun n hn hm => by
    have := two_digits n hn 32 hm
    revert this; decide
  rcases List.mem_append.1 hm with h | h
  · exact h3 _ h
  · rcases List.mem_cons.1 h with h | h
    · revert h; decide
    · rcases List.mem_append.1 h with h | h
      · exact h4 _ (by omega) h
      · rcases List.mem_cons.1 h with h | h
        · revert h; decide
        · exact h4 _ (by omega) h

def noBlank : Fd → Bool
  | .name => false
  | .lit w => !w.data.toList.contains 32
  | _ => true
theorem word_blank {a : Art} {p : Fd} (h : okP a p) (hn : noBlank p = true) : (32 : UInt8) ∉ (wordOf a p).data.toList := by
  cases p with
  | code => exact code_blank h
  | other => exact code_blank h
  | name => cases hn
  | year => exact itoa_blank' h.1
  | span =>
    have h' : a.year = -1 ∨ 0 ≤ a.year ∧ a.year ≤ 99 := h
    simp only [wordOf, numOr]
    by_cases e : a.year = -1
    · rw [if_pos e]; decide
    · rw [if_neg e]; exact itoa_blank' (by omega)
  | amount => exact itoa_blank' h.1
  | limit =>
    have h' : a.amount = -1 ∨ 0 ≤ a.amount ∧ a.amount ≤ 1000000000000 := h
    simp only [wordOf, numOr]
    by_cases e : a.amount = -1
    · rw [if_pos e]; decide
    · rw [if_neg e]; exact itoa_blank' (by omega)
  | least => exact itoa_blank' h.1
  | percent => exact itoa_blank' h.1
  | number => exact itoa_blank' (by have := h.1; omega)
  | count => exact itoa_blank' (by have := h.1; omega)
  | day => exact day_blank h.1 (by have := h.2; omega)
  | lit w =>
    simp only [noBlank, Bool.not_eq_true', List.contains_eq_mem, decide_eq_false_iff_not] at hn
    exact hn

set_option maxRecDepth 100000 in
theorem forms_last : ∀ f ∈ formsL, f.parts.dropLast.all noBlank = true := by decide
set_option maxRecDepth 100000 in
theorem forms_two : ∀ f ∈ formsL, 2 ≤ f.parts.length := by decide

theorem cut_write {f : Form} (hf : f ∈ formsL) {a : Art} (h : ∀ p ∈ f.parts, okP a p) : (cutK (f.parts.length - 1) (writeOf f a).data.toList).map txt = f.parts.map (wordOf a) := by
  have h2 := forms_two f hf
  have hne : f.parts ≠ [] := fun e => by rw [e] at h2; simp at h2
  have hd := List.dropLast_concat_getLast hne
  have hk : f.parts.length - 1 = (f.parts.dropLast.map fun p => (wordOf a p).data.toList).length := by rw [List.length_map, List.length_dropLast]
  have hw : (writeOf f a).data.toList = joinL 32 ((f.parts.dropLast.map fun p => (wordOf a p).data.toList) ++ [(wordOf a (f.parts.getLast hne)).data.toList]) := by
    unfold writeOf
    rw [txt_list]
    conv => lhs; rw [← hd]
    rw [List.map_append]
    rfl
  rw [hk, hw, cut_join]
  · rw [List.map_append, List.map_map]
    conv => rhs; rw [← hd]
    rw [List.map_append]
    congr 1
  · intro w hw
    obtain ⟨p, hp, rfl⟩ := List.mem_map.1 hw
    exact word_blank (h p (List.dropLast_subset _ hp)) (List.all_eq_true.1 (forms_last f hf) p hp)

theorem readOf_write {f : Form} (hf : f ∈ formsL) {a : Art} (h : ∀ p ∈ f.parts, okP a p) : readOf f (writeOf f a) = some (f.parts.foldl (fun y p => setOf y a p) { Art.none with kind := f.kind, what := f.what }) := by
  unfold readOf
  rw [cut_write hf h]
  exact readGo_words a f.parts _ h

end Go.Proofs.YtdgckdmgplpobaaGreatDoor

/- Articles and their texts, as mathematics: the text of an article that was read is the text that it was read from, no text has two forms, different articles have different texts; of no function of the program; no condition. -/
namespace Go.Proofs.YtdgckdmgplpobaaGreatDoor
open Go.RowKit Go.Lib Go.Proofs

def fieldN : Fd → Nat
  | .code => 1
  | .other => 2
  | .name => 3
  | .year => 4
  | .span => 4
  | .amount => 5
  | .limit => 5
  | .least => 6
  | .percent => 7
  | .number => 8
  | .count => 8
  | .day => 9
  | .lit _ => 0

def apart (q p : Fd) : Prop := fieldN q ≠ fieldN p ∨ fieldN p = 0

theorem set_word (x y : Art) (q p : Fd) (h : apart q p) : wordOf (setOf x y q) p = wordOf x p := by
  unfold apart at h
  cases q <;> cases p <;> first | rfl | (simp [fieldN] at h)
theorem set_okP (x y : Art) (q p : Fd) (h : apart q p) : okP (setOf x y q) p = okP x p := by
  unfold apart at h
  cases q <;> cases p <;> first | rfl | (simp [fieldN] at h)

theorem take_is_set (x : Art) (q : Fd) (w : ByteArray) : ∃ y, (takeOf x q w).1 = setOf x y q := by
  cases q with
  | code => exact ⟨{ x with code := w }, rfl⟩
  | other => exact ⟨{ x with other := w }, rfl⟩
  | name => exact ⟨{ x with name := w }, rfl⟩
  | year => rw [takeOf_year]; exact ⟨{ x with year := numI w }, rfl⟩
  | span => rw [takeOf_span]; exact ⟨{ x with year := orI w allT }, rfl⟩
  | amount => rw [takeOf_amount]; exact ⟨{ x with amount := numI w }, rfl⟩
  | limit => rw [takeOf_limit]; exact ⟨{ x with amount := orI w noneT }, rfl⟩
  | least => rw [takeOf_least]; exact ⟨{ x with least := numI w }, rfl⟩
  | percent => rw [takeOf_percent]; exact ⟨{ x with percent := numI w }, rfl⟩
  | number => rw [takeOf_number]; exact ⟨{ x with number := numI w }, rfl⟩
  | count => rw [takeOf_count]; exact ⟨{ x with number := numI w }, rfl⟩
  | day =>
    obtain ⟨d, y, e⟩ := takeOf_day x w
    rw [e]
    exact ⟨{ x with day := d }, rfl⟩
  | lit v => exact ⟨x, rfl⟩

theorem inN_back {w : ByteArray} {lo hi : Int} (h : inN w lo hi = true) : itoaT (numI w) = w ∧ lo ≤ numI w ∧ numI w ≤ hi ∧ 0 ≤ numI w := by
  unfold inN at h
  simp only [Bool.and_eq_true, decide_eq_true_eq] at h
  obtain ⟨h1, h2, h3⟩ := h
  obtain ⟨u, hu⟩ := Option.isSome_iff_exists.1 h1
  rw [numI_some hu] at *
  exact ⟨itoa_numT hu, h2, h3, by omega⟩
theorem inOr_back {w t : ByteArray} {hi : Int} (h : inOr w hi t = true) : numOr (orI w t) t = w ∧ (orI w t = -1 ∨ 0 ≤ orI w t ∧ orI w t ≤ hi) := by
  unfold inOr at h
  unfold orI numOr
  by_cases e : w = t
  · subst e; simp
  · rw [if_neg e]
    rw [decide_eq_false e, Bool.false_or] at h
    obtain ⟨h1, h2, h3, h4⟩ := inN_back h
    rw [if_neg (by omega)]
    exact ⟨h1, Or.inr ⟨h4, h3⟩⟩
theorem inDay_back {w : ByteArray} (h : inDay w = true) : dayT (dayI' w) = w ∧ 0 ≤ dayI' w ∧ dayI' w ≤ 35990 := by
  obtain ⟨d, hd, he⟩ := of_decide_eq_true h
  have hx : ∃ k : Nat, k ≤ 36000 ∧ dayText k = w := ⟨d, by omega, he⟩
  have hw : dayT (d : Int) = w := by
    unfold dayT
    rw [if_pos (dayB_true.2 ⟨by omega, by omega⟩)]
    simpa using he
  rw [← hw, dayI_dayT (by omega) (by omega)]
  exact ⟨rfl, by omega, by omega⟩

theorem take_back (x : Art) (p : Fd) (w : ByteArray) (h : (takeOf x p w).2 = true) : wordOf (takeOf x p w).1 p = w ∧ okP (takeOf x p w).1 p := by
  cases p with
  | code => exact ⟨rfl, h⟩
  | other => exact ⟨rfl, h⟩
  | name => exact ⟨rfl, h⟩
  | year =>
    rw [takeOf_year] at h ⊢
    have := inN_back h
    exact ⟨this.1, this.2.1, this.2.2.1⟩
  | span =>
    rw [takeOf_span] at h ⊢
    exact inOr_back h
  | amount =>
    rw [takeOf_amount] at h ⊢
    have := inN_back h
    exact ⟨this.1, this.2.1, this.2.2.1⟩
  | limit =>
    rw [takeOf_limit] at h ⊢
    exact inOr_back h
  | least =>
    rw [takeOf_least] at h ⊢
    have := inN_back h
    exact ⟨this.1, this.2.1, this.2.2.1⟩
  | percent =>
    rw [takeOf_percent] at h ⊢
    have := inN_back h
    exact ⟨this.1, this.2.1, this.2.2.1⟩
  | number =>
    rw [takeOf_number] at h ⊢
    have := inN_back h
    exact ⟨this.1, this.2.1, this.2.2.1⟩
  | count =>
    rw [takeOf_count] at h ⊢
    have := inN_back h
    exact ⟨this.1, this.2.1, this.2.2.1⟩
  | day =>
    rw [takeOf_day2] at h
    rw [takeOf_day1, wordOf_day]
    have hb := inDay_back h
    generalize dayI' w = d at hb ⊢
    exact hb
  | lit v => exact ⟨(of_decide_eq_true h).symm, trivial⟩

theorem readGo_back : ∀ (ps : List Fd) (x b : Art) (ws : List ByteArray), ps.Pairwise (fun p q => apart q p) → readGo x ps ws = some b → (∀ p ∈ ps, okP b p) ∧ ps.map (wordOf b) = ws.take ps.length ∧ ps.length ≤ ws.length
  | [], x, b, ws, _, _ => by simp
  | p :: ps, x, b, [], _, h => by rw [readGo_end] at h; cases h
  | p :: ps, x, b, w :: ws, hd, h => by
    rw [readGo_step] at h
    by_cases hc : (takeOf x p w).2 = true
    · rw [if_pos hc] at h
      rw [List.pairwise_cons] at hd
      obtain ⟨h1, h2, h3⟩ := readGo_back ps _ b ws hd.2 h
      obtain ⟨b1, b2⟩ := take_back x p w hc
      have k1 : wordOf b p = wordOf (takeOf x p w).1 p := readGo_keep (fun a => wordOf a p) (fun q => apart q p) (fun a q v hq => by
        obtain ⟨y, e⟩ := take_is_set a q v
        show wordOf (takeOf a q v).1 p = wordOf a p
        rw [e]; exact set_word a y q p hq) ps ws _ b hd.1 h
      have k2 : okP b p = okP (takeOf x p w).1 p := readGo_keep (fun a => okP a p) (fun q => apart q p) (fun a q v hq => by
        obtain ⟨y, e⟩ := take_is_set a q v
        show okP (takeOf a q v).1 p = okP a p
        rw [e]; exact set_okP a y q p hq) ps ws _ b hd.1 h
      refine ⟨fun q hq => ?_, ?_, by simp only [List.length_cons]; omega⟩
      · rcases List.mem_cons.1 hq with rfl | hq
        · rw [k2]; exact b2
        · exact h1 q hq
      · rw [List.map_cons, List.length_cons, List.take_succ_cons, h2, k1, b1]
    · rw [if_neg hc] at h; cases h

theorem forms_apart : ∀ f ∈ formsL, f.parts.Pairwise (fun p q => apart q p) := by
  intro f hf
  simp only [formsL, List.mem_cons, List.mem_nil_iff, or_false] at hf
  rcases hf with rfl | rfl | rfl | rfl | rfl | rfl | rfl | rfl | rfl | rfl | rfl | rfl <;>
    simp [apart, fieldN, litW]

theorem read_back {f : Form} (hf : f ∈ formsL) {t : ByteArray} {b : Art} (h : readOf f t = some b) : b.kind = f.kind ∧ b.what = f.what ∧ (∀ p ∈ f.parts, okP b p) ∧ writeOf f b = t := by
  unfold readOf at h
  obtain ⟨h1, h2, h3⟩ := readGo_back _ _ _ _ (forms_apart f hf) h
  obtain ⟨k1, k2⟩ := readGo_kind h
  refine ⟨k1, k2, h1, ?_⟩
  have hn := forms_two f hf
  have hl := splitK_len (f.parts.length - 1) t.data.toList
  have hlen : ((cutK (f.parts.length - 1) t.data.toList).map txt).length = f.parts.length := by
    rw [List.length_map] at h3 ⊢
    omega
  rw [List.take_of_length_le (by omega)] at h2
  unfold writeOf
  have e : (f.parts.map fun p => (wordOf b p).data.toList) = (f.parts.map (wordOf b)).map (fun s => s.data.toList) := by rw [List.map_map]; rfl
  rw [e, h2, List.map_map]
  have e2 : (fun s : ByteArray => s.data.toList) ∘ txt = id := by funext l; exact txt_list l
  rw [e2, List.map_id, join_cut, txt_back]

theorem formOf_of {f : Form} (hf : f ∈ formsL) {b : Art} (h1 : b.kind = f.kind) (h2 : b.what = f.what) : formOf b = some f := by
  unfold formOf
  have : formB b = fun g : Form => decide (g.kind = f.kind) && decide (g.what = f.what) := by
    funext g
    unfold formB
    rw [h1, h2]
  rw [this]
  simp only [formsL, List.mem_cons, List.mem_nil_iff, or_false] at hf
  rcases hf with rfl | rfl | rfl | rfl | rfl | rfl | rfl | rfl | rfl | rfl | rfl | rfl <;> rfl

theorem formOf_mem {a : Art} {f : Form} (h : formOf a = some f) : f ∈ formsL ∧ f.kind = a.kind ∧ f.what = a.what := by
  unfold formOf at h
  have h1 := List.mem_of_find?_eq_some h
  have h2 := List.find?_some h
  unfold formB at h2
  simp only [Bool.and_eq_true, decide_eq_true_eq] at h2
  exact ⟨h1, h2⟩

theorem text_back {f : Form} (hf : f ∈ formsL) {t : ByteArray} {b : Art} (h : readOf f t = some b) : textA b = t := by
  obtain ⟨h1, h2, h3, h4⟩ := read_back hf h
  unfold textA
  rw [formOf_of hf h1 h2]
  simp only
  rw [h4, if_pos h]

theorem readGo_lit : ∀ (ps : List Fd) (x b : Art) (ws : List ByteArray), readGo x ps ws = some b → ∀ (i : Nat) (v : ByteArray), ps[i]? = some (.lit v) → ws[i]? = some v
  | [], x, b, ws, _, i, v, hi => by simp at hi
  | p :: ps, x, b, [], h, _, _, _ => by rw [readGo_end] at h; cases h
  | p :: ps, x, b, w :: ws, h, i, v, hi => by
    rw [readGo_step] at h
    by_cases hc : (takeOf x p w).2 = true
    · rw [if_pos hc] at h
      cases i with
      | zero =>
        simp at hi
        subst hi
        have : w = v := of_decide_eq_true hc
        simp [this]
      | succ i =>
        simp only [List.getElem?_cons_succ] at hi ⊢
        exact readGo_lit ps _ b ws h i v hi
    · rw [if_neg hc] at h; cases h

theorem cutK_head (k m : Nat) (l : List UInt8) : (cutK (k + 1) l)[0]? = (cutK (m + 1) l)[0]? := by
  by_cases h : (32 : UInt8) ∈ l
  · rcases indexByte_cases l 32 with ⟨_, h2⟩ | ⟨i, h1, h2, h3, h4⟩
    · exact absurd h h2
    · have e : l = l.take i ++ 32 :: l.drop (i + 1) := by rw [← h4, List.take_append_drop]
      rw [e, cutK_hit _ h3, cutK_hit _ h3]
      simp
  · rw [cutK_no _ h, cutK_no _ h]

def litAt (f : Form) (i : Nat) : Option (List UInt8) := match f.parts[i]? with
  | some (.lit w) => some w.data.toList
  | _ => none
theorem litAt_some {f : Form} {i : Nat} {l : List UInt8} (h : litAt f i = some l) : f.parts[i]? = some (.lit (txt l)) := by
  unfold litAt at h
  split at h
  · next w hw =>
    injection h with h
    rw [hw, ← h, txt_back]
  · cases h

set_option maxRecDepth 100000 in
theorem forms_differ : (formsL.all fun f => formsL.all fun g => (f.kind == g.kind && f.what == g.what) || ((litAt f 0).isSome && (litAt g 0).isSome && litAt f 0 != litAt g 0) || (f.parts.length == g.parts.length && (litAt f 3).isSome && (litAt g 3).isSome && litAt f 3 != litAt g 3)) = true := by decide

theorem forms_kind {f g : Form} (hf : f ∈ formsL) (hg : g ∈ formsL) (h1 : f.kind = g.kind) (h2 : f.what = g.what) : f = g := by
  have e := formOf_of hf (b := { Art.none with kind := g.kind, what := g.what }) h1.symm h2.symm
  have e2 := formOf_of hg (b := { Art.none with kind := g.kind, what := g.what }) rfl rfl
  rw [e] at e2
  exact Option.some.inj e2

theorem form_unique {f g : Form} (hf : f ∈ formsL) (hg : g ∈ formsL) {t : ByteArray} {a b : Art} (h1 : readOf f t = some a) (h2 : readOf g t = some b) : f = g := by
  have hd := List.all_eq_true.1 (List.all_eq_true.1 forms_differ f hf) g hg
  have n1 := forms_two f hf
  have n2 := forms_two g hg
  unfold readOf at h1 h2
  simp only [Bool.or_eq_true, Bool.and_eq_true, beq_iff_eq, bne_iff_ne, ne_eq] at hd
  rcases hd with (⟨k1, k2⟩ | ⟨⟨s1, s2⟩, s3⟩) | ⟨⟨⟨s0, s1⟩, s2⟩, s3⟩
  · exact forms_kind hf hg k1 k2
  · exfalso
    obtain ⟨v1, e1⟩ := Option.isSome_iff_exists.1 s1
    obtain ⟨v2, e2⟩ := Option.isSome_iff_exists.1 s2
    have a1 := readGo_lit _ _ _ _ h1 0 _ (litAt_some e1)
    have a2 := readGo_lit _ _ _ _ h2 0 _ (litAt_some e2)
    rw [List.getElem?_map] at a1 a2
    rw [show f.parts.length - 1 = (f.parts.length - 2) + 1 by omega] at a1
    rw [show g.parts.length - 1 = (g.parts.length - 2) + 1 by omega, cutK_head _ (f.parts.length - 2), a1] at a2
    have := congrArg (fun s : ByteArray => s.data.toList) (Option.some.inj a2)
    simp only [txt_list] at this
    exact s3 (by rw [e1, e2, this])
  · exfalso
    obtain ⟨v1, e1⟩ := Option.isSome_iff_exists.1 s1
    obtain ⟨v2, e2⟩ := Option.isSome_iff_exists.1 s2
    have a1 := readGo_lit _ _ _ _ h1 3 _ (litAt_some e1)
    have a2 := readGo_lit _ _ _ _ h2 3 _ (litAt_some e2)
    rw [← s0, a1] at a2
    have := congrArg (fun s : ByteArray => s.data.toList) (Option.some.inj a2)
    simp only [txt_list] at this
    exact s3 (by rw [e1, e2, this])

theorem parse_read {f : Form} (hf : f ∈ formsL) {t : ByteArray} {a : Art} (h : readOf f t = some a) : parseA t = some a := by
  cases hp : parseA t with
  | none =>
    unfold parseA at hp
    rw [List.findSome?_eq_none_iff] at hp
    rw [hp f hf] at h
    cases h
  | some b =>
    obtain ⟨g, hg, hb⟩ := List.exists_of_findSome?_eq_some hp
    have := form_unique hf hg h hb
    subst this
    rw [h] at hb
    exact hb.symm

theorem parse_some {t : ByteArray} {b : Art} (h : parseA t = some b) : ∃ f ∈ formsL, readOf f t = some b := by
  obtain ⟨g, hg, hb⟩ := List.exists_of_findSome?_eq_some h
  exact ⟨g, hg, hb⟩

theorem parse_text {t : ByteArray} {b : Art} (h : parseA t = some b) : textA b = t := by
  obtain ⟨f, hf, h⟩ := parse_some h
  exact text_back hf h

theorem text_parse {a : Art} (h : textA a ≠ ⟨#[]⟩) : parseA (textA a) = some a := by
  cases hf : formOf a with
  | none => unfold textA at h; rw [hf] at h; exact absurd rfl h
  | some f =>
    obtain ⟨h1, h2⟩ := textA_read hf h
    rw [h2]
    exact parse_read (formOf_mem hf).1 h1

theorem write_ne {f : Form} (hf : f ∈ formsL) (a : Art) : writeOf f a ≠ ⟨#[]⟩ := fun h => by
  have h2 := forms_two f hf
  have := congrArg (fun s : ByteArray => s.data.toList) h
  simp only [writeOf, txt_list] at this
  match hp : f.parts, h2 with
  | p :: q :: ps, _ =>
    rw [hp] at this
    simp [joinL] at this

theorem parse_ne {t : ByteArray} {b : Art} (h : parseA t = some b) : textA b ≠ ⟨#[]⟩ := by
  obtain ⟨f, hf, h⟩ := parse_some h
  rw [text_back hf h, ← (read_back hf h).2.2.2]
  exact write_ne hf b

theorem plain_of {f : Form} (hf : f ∈ formsL) {a : Art} (h : ∀ p ∈ f.parts, okP a p) (he : f.parts.foldl (fun y p => setOf y a p) { Art.none with kind := f.kind, what := f.what } = a) : textA a = writeOf f a ∧ textA a ≠ ⟨#[]⟩ := by
  have h1 := readOf_write hf h
  rw [he] at h1
  have h2 := text_back hf h1
  exact ⟨h2, by rw [h2]; exact write_ne hf a⟩

theorem plain_parts {a : Art} (h : textA a ≠ ⟨#[]⟩) : ∃ f ∈ formsL, formOf a = some f ∧ a.kind = f.kind ∧ a.what = f.what ∧ (∀ p ∈ f.parts, okP a p) ∧ textA a = writeOf f a ∧ f.parts.foldl (fun y p => setOf y a p) { Art.none with kind := f.kind, what := f.what } = a := by
  cases hf : formOf a with
  | none => unfold textA at h; rw [hf] at h; exact absurd rfl h
  | some f =>
    obtain ⟨h1, h2⟩ := textA_read hf h
    obtain ⟨m1, m2, m3⟩ := formOf_mem hf
    obtain ⟨b1, b2, b3, b4⟩ := read_back m1 h1
    have h3 := readOf_write m1 b3
    rw [h1] at h3
    exact ⟨f, m1, rfl, b1, b2, b3, h2, (Option.some.inj h3).symm⟩

end Go.Proofs.YtdgckdmgplpobaaGreatDoor

/- Of plain articles, as mathematics: their fields are small, what Text asks of an article holds; of no function of the program; no condition. -/
namespace Go.Proofs.YtdgckdmgplpobaaGreatDoor
open Go.RowKit Go.Lib Go.Proofs

theorem code_small {s : ByteArray} (h : isCodeB s = true) : s.size ≤ 11 := by
  obtain ⟨ns, hg, rfl⟩ := isCodeB_inv h
  exact codeT_size hg
theorem name_small {s : ByteArray} (h : nameB s = true) : s.size ≤ 40 := by
  unfold nameB at h
  simp only [Bool.and_eq_true] at h
  have := (inB_true.1 h.1).2
  omega

structure PlainBd (a : Art) : Prop where
  k0 : 1 ≤ a.kind
  k1 : a.kind ≤ 10
  w0 : 0 ≤ a.what
  w1 : a.what ≤ 3
  y0 : -1 ≤ a.year
  y1 : a.year ≤ 99
  a0 : -1 ≤ a.amount
  a1 : a.amount ≤ 1000000000000
  p0 : 0 ≤ a.percent
  p1 : a.percent ≤ 100
  n0 : 0 ≤ a.number
  n1 : a.number ≤ 1000000
  d0 : 0 ≤ a.day
  d1 : a.day ≤ 35990
  l0 : 0 ≤ a.least
  l1 : a.least ≤ 1000000000000
  c : a.code.size ≤ 11
  o : a.other.size ≤ 11
  n : a.name.size ≤ 40

theorem fold_field {α : Type} (g : Art → α) (S : Fd → Prop) (P : α → Prop) (a : Art) (hS : ∀ x p, okP a p → P (g x) → P (g (setOf x a p))) : ∀ (ps : List Fd) (x : Art), (∀ p ∈ ps, okP a p) → P (g x) → P (g (ps.foldl (fun y p => setOf y a p) x))
  | [], x, _, h => h
  | p :: ps, x, hok, h => fold_field g S P a hS ps (setOf x a p) (fun q hq => hok q (by simp [hq])) (hS x p (hok p (by simp)) h)

theorem plain_bd {a : Art} (h : textA a ≠ ⟨#[]⟩) : PlainBd a := by
  obtain ⟨f, hf, _, hk, hw, hok, _, he⟩ := plain_parts h
  have hkw : (1 ≤ f.kind ∧ f.kind ≤ 10) ∧ 0 ≤ f.what ∧ f.what ≤ 3 := by
    have : (formsL.all fun f => (decide (1 ≤ f.kind) && decide (f.kind ≤ 10)) && (decide (0 ≤ f.what) && decide (f.what ≤ 3))) = true := by decide
    have := List.all_eq_true.1 this f hf
    simp only [Bool.and_eq_true, decide_eq_true_eq] at this
    exact this
  have fin : ∀ {α : Type} (g : Art → α) (P : α → Prop), (∀ x p, okP a p → P (g x) → P (g (setOf x a p))) → P (g { Art.none with kind := f.kind, what := f.what }) → P (g a) := fun g P h1 h2 => by
    have := fold_field g (fun _ => True) P a h1 f.parts _ hok h2
    rw [he] at this
    exact this
  have hy := fin Art.year (fun n => -1 ≤ n ∧ n ≤ 99) (fun x p hp hx => by cases p <;> simp only [okP, setOf] at * <;> first | exact hx | omega) (by simp [Art.none])
  have ha := fin Art.amount (fun n => -1 ≤ n ∧ n ≤ 1000000000000) (fun x p hp hx => by cases p <;> simp only [okP, setOf] at * <;> first | exact hx | omega) (by simp [Art.none])
  have hp := fin Art.percent (fun n => 0 ≤ n ∧ n ≤ 100) (fun x p hp hx => by cases p <;> simp only [okP, setOf] at * <;> first | exact hx | omega) (by simp [Art.none])
  have hn := fin Art.number (fun n => 0 ≤ n ∧ n ≤ 1000000) (fun x p hp hx => by cases p <;> simp only [okP, setOf] at * <;> first | exact hx | omega) (by simp [Art.none])
  have hd := fin Art.day (fun n => 0 ≤ n ∧ n ≤ 35990) (fun x p hp hx => by cases p <;> simp only [okP, setOf] at * <;> first | exact hx | omega) (by simp [Art.none])
  have hl := fin Art.least (fun n => 0 ≤ n ∧ n ≤ 1000000000000) (fun x p hp hx => by cases p <;> simp only [okP, setOf] at * <;> first | exact hx | omega) (by simp [Art.none])
  have hc := fin Art.code (fun s => s.size ≤ 11) (fun x p hp hx => by cases p <;> simp only [okP, setOf] at * <;> first | exact hx | exact code_small hp) (Nat.zero_le _)
  have ho := fin Art.other (fun s => s.size ≤ 11) (fun x p hp hx => by cases p <;> simp only [okP, setOf] at * <;> first | exact hx | exact code_small hp) (Nat.zero_le _)
  have hnm := fin Art.name (fun s => s.size ≤ 40) (fun x p hp hx => by cases p <;> simp only [okP, setOf] at * <;> first | exact hx | exact name_small hp) (Nat.zero_le _)
  exact ⟨by omega, by omega, by omega, by omega, hy.1, hy.2, ha.1, ha.2, hp.1, hp.2, hn.1, hn.2, hd.1, hd.2, hl.1, hl.2, hc, ho, hnm⟩

theorem PlainBd.fit {a : Art} (h : PlainBd a) : ArtFit a := by
  have := h
  obtain ⟨k0, k1, w0, w1, y0, y1, a0, a1, p0, p1, n0, n1, d0, d1, l0, l1, c, o, n⟩ := this
  refine art_fit a ?_ (by omega) (by omega) (by omega)
  constructor <;> omega

end Go.Proofs.YtdgckdmgplpobaaGreatDoor

/- The twelve ways to be a plain article, as mathematics. -/
namespace Go.Proofs.YtdgckdmgplpobaaGreatDoor
open Go.RowKit Go.Lib Go.Proofs

theorem plain_form {f : Form} (hf : f ∈ formsL) {a : Art} (h : ∀ p ∈ f.parts, okP a p) (he : f.parts.foldl (fun y p => setOf y a p) { Art.none with kind := f.kind, what := f.what } = a) : textA a ≠ ⟨#[]⟩ := (plain_of hf h he).2

theorem forms_at (i : Nat) (h : i < formsL.length) : formsL[i] ∈ formsL := List.getElem_mem h

theorem pl_years (x z : Int) (hx : 0 ≤ x ∧ x ≤ 99) (hz : 1 ≤ z ∧ z ≤ 4) : textA ⟨1, ⟨#[]⟩, ⟨#[]⟩, ⟨#[]⟩, x, 0, 0, z, 0, 0, 0⟩ ≠ ⟨#[]⟩ :=
  plain_form (forms_at 0 (by decide)) (by intro p hp; simp only [formsL, litW, List.getElem_cons_zero, List.mem_cons, List.mem_nil_iff, or_false] at hp; rcases hp with rfl | rfl | rfl <;> first | trivial | assumption | (simp only [okP]; omega)) rfl
theorem pl_heading (cd nm : ByteArray) (c1 : isCodeB cd = true) (c3 : nameB nm = true) : textA ⟨2, cd, ⟨#[]⟩, nm, 0, 0, 0, 0, 0, 0, 0⟩ ≠ ⟨#[]⟩ :=
  plain_form (forms_at 1 (by decide)) (by intro p hp; simp only [formsL, litW, List.getElem_cons_zero, List.getElem_cons_succ, List.mem_cons, List.mem_nil_iff, or_false] at hp; rcases hp with rfl | rfl | rfl <;> first | trivial | assumption | (simp only [okP]; omega)) rfl
theorem pl_line (cd : ByteArray) (yr am : Int) (c1 : isCodeB cd = true) (hy : 0 ≤ yr ∧ yr ≤ 99) (ha : 0 ≤ am ∧ am ≤ 1000000000000) : textA ⟨3, cd, ⟨#[]⟩, ⟨#[]⟩, yr, am, 0, 0, 0, 0, 0⟩ ≠ ⟨#[]⟩ :=
  plain_form (forms_at 2 (by decide)) (by intro p hp; simp only [formsL, litW, List.getElem_cons_zero, List.getElem_cons_succ, List.mem_cons, List.mem_nil_iff, or_false] at hp; rcases hp with rfl | rfl | rfl | rfl <;> first | trivial | assumption | (simp only [okP]; omega)) rfl
theorem pl_ceiling (cd : ByteArray) (sp am : Int) (c1 : isCodeB cd = true) (hs : sp = -1 ∨ 0 ≤ sp ∧ sp ≤ 99) (ha : 0 ≤ am ∧ am ≤ 1000000000000) : textA ⟨4, cd, ⟨#[]⟩, ⟨#[]⟩, sp, am, 0, 0, 0, 0, 0⟩ ≠ ⟨#[]⟩ :=
  plain_form (forms_at 3 (by decide)) (by intro p hp; simp only [formsL, litW, List.getElem_cons_zero, List.getElem_cons_succ, List.mem_cons, List.mem_nil_iff, or_false] at hp; rcases hp with rfl | rfl | rfl | rfl <;> first | trivial | assumption | (simp only [okP]; omega)) rfl
theorem pl_floor (cd : ByteArray) (sp am : Int) (c1 : isCodeB cd = true) (hs : sp = -1 ∨ 0 ≤ sp ∧ sp ≤ 99) (ha : 0 ≤ am ∧ am ≤ 1000000000000) : textA ⟨5, cd, ⟨#[]⟩, ⟨#[]⟩, sp, am, 0, 0, 0, 0, 0⟩ ≠ ⟨#[]⟩ :=
  plain_form (forms_at 4 (by decide)) (by intro p hp; simp only [formsL, litW, List.getElem_cons_zero, List.getElem_cons_succ, List.mem_cons, List.mem_nil_iff, or_false] at hp; rcases hp with rfl | rfl | rfl | rfl <;> first | trivial | assumption | (simp only [okP]; omega)) rfl
theorem pl_earmark (cd ot : ByteArray) (x : Int) (c1 : isCodeB cd = true) (c2 : isCodeB ot = true) (hx : 0 ≤ x ∧ x ≤ 100) : textA ⟨6, cd, ot, ⟨#[]⟩, 0, 0, x, 0, 0, 0, 0⟩ ≠ ⟨#[]⟩ :=
  plain_form (forms_at 5 (by decide)) (by intro p hp; simp only [formsL, litW, List.getElem_cons_zero, List.getElem_cons_succ, List.mem_cons, List.mem_nil_iff, or_false] at hp; rcases hp with rfl | rfl | rfl | rfl <;> first | trivial | assumption | (simp only [okP]; omega)) rfl
theorem pl_wait (cd : ByteArray) (yr am x : Int) (c1 : isCodeB cd = true) (hy : 0 ≤ yr ∧ yr ≤ 99) (ha : 0 ≤ am ∧ am ≤ 1000000000000) (hx : 0 ≤ x ∧ x ≤ 35990) : textA ⟨7, cd, ⟨#[]⟩, ⟨#[]⟩, yr, am, 0, 0, x, 0, 0⟩ ≠ ⟨#[]⟩ :=
  plain_form (forms_at 6 (by decide)) (by intro p hp; simp only [formsL, litW, List.getElem_cons_zero, List.getElem_cons_succ, List.mem_cons, List.mem_nil_iff, or_false] at hp; rcases hp with rfl | rfl | rfl | rfl | rfl <;> first | trivial | assumption | (simp only [okP]; omega)) rfl
theorem pl_reach (cd ot : ByteArray) (yr am x : Int) (c1 : isCodeB cd = true) (c2 : isCodeB ot = true) (hy : 0 ≤ yr ∧ yr ≤ 99) (ha : 0 ≤ am ∧ am ≤ 1000000000000) (hx : 0 ≤ x ∧ x ≤ 1000000000000) : textA ⟨8, cd, ot, ⟨#[]⟩, yr, am, 0, 0, 0, x, 0⟩ ≠ ⟨#[]⟩ :=
  plain_form (forms_at 7 (by decide)) (by intro p hp; simp only [formsL, litW, List.getElem_cons_zero, List.getElem_cons_succ, List.mem_cons, List.mem_nil_iff, or_false] at hp; rcases hp with rfl | rfl | rfl | rfl | rfl | rfl <;> first | trivial | assumption | (simp only [okP]; omega)) rfl
theorem pl_rule (cd ot : ByteArray) (z x : Int) (c1 : isCodeB cd = true) (c2 : isCodeB ot = true) (hz : 1 ≤ z ∧ z ≤ 1000000) (hx : 0 ≤ x ∧ x ≤ 100) : textA ⟨9, cd, ot, ⟨#[]⟩, 0, 0, x, z, 0, 0, 0⟩ ≠ ⟨#[]⟩ :=
  plain_form (forms_at 8 (by decide)) (by intro p hp; simp only [formsL, litW, List.getElem_cons_zero, List.getElem_cons_succ, List.mem_cons, List.mem_nil_iff, or_false] at hp; rcases hp with rfl | rfl | rfl | rfl | rfl <;> first | trivial | assumption | (simp only [okP]; omega)) rfl
theorem pl_aline (cd : ByteArray) (yr am d z : Int) (c1 : isCodeB cd = true) (hy : 0 ≤ yr ∧ yr ≤ 99) (ha : 0 ≤ am ∧ am ≤ 1000000000000) (hd : 0 ≤ d ∧ d ≤ 35990) (hz : 1 ≤ z ∧ z ≤ 1000000) : textA ⟨10, cd, ⟨#[]⟩, ⟨#[]⟩, yr, am, 0, z, d, 0, 1⟩ ≠ ⟨#[]⟩ :=
  plain_form (forms_at 9 (by decide)) (by intro p hp; simp only [formsL, litW, List.getElem_cons_zero, List.getElem_cons_succ, List.mem_cons, List.mem_nil_iff, or_false] at hp; rcases hp with rfl | rfl | rfl | rfl | rfl | rfl | rfl <;> first | trivial | assumption | (simp only [okP]; omega)) rfl
theorem pl_aceiling (cd : ByteArray) (sp am d z : Int) (c1 : isCodeB cd = true) (hs : sp = -1 ∨ 0 ≤ sp ∧ sp ≤ 99) (ha : am = -1 ∨ 0 ≤ am ∧ am ≤ 1000000000000) (hd : 0 ≤ d ∧ d ≤ 35990) (hz : 1 ≤ z ∧ z ≤ 1000000) : textA ⟨10, cd, ⟨#[]⟩, ⟨#[]⟩, sp, am, 0, z, d, 0, 2⟩ ≠ ⟨#[]⟩ :=
  plain_form (forms_at 10 (by decide)) (by intro p hp; simp only [formsL, litW, List.getElem_cons_zero, List.getElem_cons_succ, List.mem_cons, List.mem_nil_iff, or_false] at hp; rcases hp with rfl | rfl | rfl | rfl | rfl | rfl | rfl <;> first | trivial | assumption | (simp only [okP]; omega)) rfl
theorem pl_afloor (cd : ByteArray) (sp am d z : Int) (c1 : isCodeB cd = true) (hs : sp = -1 ∨ 0 ≤ sp ∧ sp ≤ 99) (ha : 0 ≤ am ∧ am ≤ 1000000000000) (hd : 0 ≤ d ∧ d ≤ 35990) (hz : 1 ≤ z ∧ z ≤ 1000000) : textA ⟨10, cd, ⟨#[]⟩, ⟨#[]⟩, sp, am, 0, z, d, 0, 3⟩ ≠ ⟨#[]⟩ :=
  plain_form (forms_at 11 (by decide)) (by intro p hp; simp only [formsL, litW, List.getElem_cons_zero, List.getElem_cons_succ, List.mem_cons, List.mem_nil_iff, or_false] at hp; rcases hp with rfl | rfl | rfl | rfl | rfl | rfl | rfl <;> first | trivial | assumption | (simp only [okP]; omega)) rfl

end Go.Proofs.YtdgckdmgplpobaaGreatDoor

/- Contracts of treasurymake's tape: New and N; a tape's numbers are any int64s; what N returns is within its bounds, and only the tape's place has turned. -/
namespace Go.Proofs.YtdgckdmgplpobaaGreatDoor
open Go.RowKit Go.Lib Go.Proofs

def IntsAt (w : World) (v : Value) (n B : Nat) : Prop :=
  ∃ (ao : Option Addr) (cap : Nat), v = .slice ao n cap ∧ n ≤ cap ∧ ∀ i, i < n → ∃ (b o : Nat) (x : Int), ao = some ⟨b, o, none⟩ ∧ b < B ∧ w.cell? ⟨b, o + i, none⟩ = some (.int .i64 x) ∧ -9223372036854775808 ≤ x ∧ x ≤ 9223372036854775807

def TapeAt (w : World) (tb : Nat) : Prop :=
  ∃ (ao : Option Addr) (n cap k : Nat), w.heap[tb]? = some (.cells #[.slice ao n cap, .int .i64 (k : Int)] 46 (0, 0)) ∧ k ≤ n ∧ n ≤ 500 ∧ IntsAt w (.slice ao n cap) n tb

theorem IntsAt.keep {w w' : World} {v : Value} {n B : Nat} (h : IntsAt w v n B) (hk : ∀ k, k < B → w'.heap[k]? = w.heap[k]?) : IntsAt w' v n B := by
  obtain ⟨ao, cap, hv, hc, hx⟩ := h
  refine ⟨ao, cap, hv, hc, fun i hi => ?_⟩
  obtain ⟨b, o, x, h1, h2, h3, h4⟩ := hx i hi
  exact ⟨b, o, x, h1, h2, by rw [World.cell?_of_block (w := w) (hk b h2)]; exact h3, h4⟩

theorem TapeAt.lt {w : World} {tb : Nat} (h : TapeAt w tb) : tb < w.heap.size := by
  obtain ⟨ao, n, cap, k, h1, _⟩ := h
  by_cases hlt : tb < w.heap.size
  · exact hlt
  · rw [Array.getElem?_eq_none (by omega)] at h1; cases h1

theorem TapeAt.keep {w w' : World} {tb : Nat} (h : TapeAt w tb) (hk : ∀ k, k ≤ tb → w'.heap[k]? = w.heap[k]?) : TapeAt w' tb := by
  obtain ⟨ao, n, cap, k, h1, h2, h3, h4⟩ := h
  exact ⟨ao, n, cap, k, by rw [hk tb (Nat.le_refl _)]; exact h1, h2, h3, h4.keep fun j hj => hk j (by omega)⟩

theorem TapeAt.below {w w' : World} {tb : Nat} (h : TapeAt w tb) (hb : Below w.heap.size w w') : TapeAt w' tb :=
  h.keep fun k hk => hb.block k (by have := h.lt; omega)

theorem TapeAt.grown {w w' : World} {tb : Nat} {row : Option Nat} (h : TapeAt w tb) (hg : w.grownBy w' row) (hr : ∀ r, row = some r → tb < r) : TapeAt w' tb :=
  h.keep fun k hk => hg.block k (by have := h.lt; omega) (fun e => by have := hr k e.symm; omega)

def NPost (tb : Nat) (n : Int) (w : World) (e : Ending) (w' : World) : Prop := ∃ r : Int, e = .returned (.int .i64 r) ∧ 0 ≤ r ∧ r < n ∧ TapeAt w' tb ∧ w.grownBy w' (some tb)

theorem cell_pair {w : World} {tb : Nat} {a b : Value} {T : TypeId} (h : w.heap[tb]? = some (.cells #[a, b] T (0, 0))) : w.cell? ⟨tb, 0, none⟩ = some a ∧ w.cell? ⟨tb, 1, none⟩ = some b ∧ w.frozen? ⟨tb, 1, none⟩ = false := by
  simp [World.cell?, World.frozen?, h]

theorem tape_step {w : World} {tb n cap k : Nat} {ao : Option Addr} (h : w.heap[tb]? = some (.cells #[.slice ao n cap, .int .i64 (k : Int)] 46 (0, 0))) (hk : k < n) (hn : n ≤ 500) (hi : IntsAt w (.slice ao n cap) n tb) (q : Nat) (z : Int) (hz : z = (k + 1 : Nat)) :
    TapeAt ((w.drewN q).setCell ⟨tb, 1, none⟩ (.int .i64 z)) tb ∧ w.grownBy ((w.drewN q).setCell ⟨tb, 1, none⟩ (.int .i64 z)) (some tb) := by
  subst hz
  have hlt : tb < w.heap.size := by
    by_cases hlt : tb < w.heap.size
    · exact hlt
    · rw [Array.getElem?_eq_none (by omega)] at h; cases h
  have hsame : ((w.drewN q).setCell ⟨tb, 1, none⟩ (.int .i64 ((k + 1 : Nat) : Int))).heap[tb]? = some (.cells #[.slice ao n cap, .int .i64 ((k + 1 : Nat) : Int)] 46 (0, 0)) := by
    rw [heap_setCell_same (w.drewN q) tb 1 _ _ _ h]
    rfl
  have hother : ∀ j, j ≠ tb → ((w.drewN q).setCell ⟨tb, 1, none⟩ (.int .i64 ((k + 1 : Nat) : Int))).heap[j]? = w.heap[j]? := fun j hj => Below.heap_setCell (w.drewN q) _ _ j hj
  refine ⟨⟨ao, n, cap, k + 1, hsame, by omega, hn, hi.keep fun j hj => hother j (by omega)⟩, rfl, rfl, rfl, by simp [World.setCell, World.drewN], fun j hj hne => hother j fun e => hne (by rw [e])⟩

set_option maxHeartbeats 1000000 in
theorem N_any (tb : Nat) (n : Int) (w : World) (ht : TapeAt w tb) (hn : 1 ≤ n) (hn1 : n ≤ 4611686018427387904) :
    Calls Tryz.prog 22 #[.pointer (some ⟨tb, 0, none⟩), .int .i64 n] w (NPost tb n w) := by
  obtain ⟨ao, m, cap, k, h1, h2, h3, h4⟩ := ht
  obtain ⟨c0, c1, f1⟩ := cell_pair h1
  by_cases hlt : k < m
  · obtain ⟨ao', cap', hv, hcap, hx⟩ := h4
    obtain ⟨b, o, x, e1, e2, hc, x0, x1⟩ := hx k hlt
    have H1 := Lib.hid h1
    have H4 : Hid (IntsAt w (.slice ao m cap) m tb) := ⟨ao', cap', hv, hcap, hx⟩
    simp only [Value.slice.injEq, true_and] at hv
    obtain ⟨rfl, rfl⟩ := hv
    subst e1
    clear h1 hx
    have r1 : x.tmod n < n := by
      rcases Int.le_total 0 x with hx0 | hx0
      · exact Int.tmod_lt_of_pos _ (by omega)
      · have := Int.tmod_nonneg n (a := -x) (by omega)
        rw [Int.neg_tmod] at this
        omega
    have r2 : -n < x.tmod n := by
      have := Int.tmod_lt_of_pos (-x) (b := n) (by omega)
      rw [Int.neg_tmod] at this
      omega
    have hk0 : (0 : Int) ≤ (k : Int) := by omega
    have hk1 : (k : Int) < (m : Int) := by omega
    have hge : ¬ (m : Int) ≤ (k : Int) := by omega
    go_enter Tryz.func22, Tryz.ntmps22
    go_wp2
    go_quiet (fail)
    go_wp2
    go_quiet (fail)
    generalize x.tmod n = r at *
    by_cases hr0 : r < 0
    · go_wp2
      go_ret
      obtain ⟨t1, t2⟩ := tape_step H1.out hlt h3 H4.out _ ((k : Int) + 1) (by omega)
      exact ⟨r + n, rfl, by omega, by omega, t1, t2⟩
    · go_wp2
      go_ret
      obtain ⟨t1, t2⟩ := tape_step H1.out hlt h3 H4.out _ ((k : Int) + 1) (by omega)
      exact ⟨r, rfl, by omega, by omega, t1, t2⟩
  · obtain rfl : k = m := by omega
    have H1 := Lib.hid h1
    have H4 := Lib.hid h4
    clear h1 h4
    have hge : (k : Int) ≤ (k : Int) := by omega
    go_enter Tryz.func22, Tryz.ntmps22
    go_wp2
    go_quiet (fail)
    go_wp2
    go_ret
    exact ⟨0, rfl, by omega, by omega, ⟨ao, k, cap, k, H1.out, Nat.le_refl _, h3, H4.out⟩, rfl, rfl, rfl, Nat.le_refl _, fun _ _ _ => rfl⟩

set_option maxHeartbeats 1000000 in
theorem New_any (v : Value) (n : Nat) (w : World) (hi : IntsAt w v n w.heap.size) (hn : n ≤ 9223372036854775807) :
    Calls Tryz.prog 6 #[v] w fun e w' => e = .returned (.pointer (some ⟨w.heap.size, 0, none⟩)) ∧ TapeAt w' w.heap.size ∧ Below w.heap.size w w' := by
  obtain ⟨ao, cap, rfl, hcap, hx⟩ := hi
  have HX := Lib.hid hx
  clear hx
  have fin : ∀ m : Nat, m ≤ n → m ≤ 500 → TapeAt (w.alloc (.cells #[.slice ao m cap, .int .i64 0] 46)) w.heap.size ∧ Below w.heap.size w (w.alloc (.cells #[.slice ao m cap, .int .i64 0] 46)) := fun m h1 h2 => by
    refine ⟨⟨ao, m, cap, 0, heap_alloc_new w _, Nat.zero_le _, h2, ao, cap, rfl, by omega, fun i hi => ?_⟩, (Below.refl _ _).alloc (Nat.le_refl _) _⟩
    obtain ⟨b, o, x, e1, e2, e3, e4⟩ := HX.out i (by omega)
    exact ⟨b, o, x, e1, e2, by rw [World.cell?_of_block (w := w) (Below.heap_alloc w _ b e2)]; exact e3, e4⟩
  have FIN := Lib.hid fin
  clear fin
  by_cases h5 : n ≤ 500
  · have hz : (n : Int) ≤ 500 := by omega
    have hmin : min (n : Int) 500 = (n : Int) := by omega
    cases ao with
    | none =>
      go_enter Tryz.func6, Tryz.ntmps6
      go_wp2
      go_ret
      obtain ⟨f1, f2⟩ := FIN.out n (Nat.le_refl _) h5
      exact ⟨rfl, f1, f2⟩
    | some a =>
      go_enter Tryz.func6, Tryz.ntmps6
      go_wp2
      go_ret
      obtain ⟨f1, f2⟩ := FIN.out n (Nat.le_refl _) h5
      exact ⟨rfl, f1, f2⟩
  · have hz : 500 ≤ (n : Int) := by omega
    have hmin : min (n : Int) 500 = 500 := by omega
    cases ao with
    | none =>
      obtain ⟨b, o, x, e1, _⟩ := HX.out 0 (by omega)
      cases e1
    | some a =>
      go_enter Tryz.func6, Tryz.ntmps6
      go_wp2
      go_ret
      obtain ⟨f1, f2⟩ := FIN.out 500 (by omega) (by omega)
      exact ⟨rfl, f1, f2⟩

end Go.Proofs.YtdgckdmgplpobaaGreatDoor

/- The contract of treasurymake's Range: a number between two; only the tape's place has turned. -/
namespace Go.Proofs.YtdgckdmgplpobaaGreatDoor
open Go.RowKit Go.Lib Go.Proofs

def RangePost (tb : Nat) (a b : Int) (w : World) (e : Ending) (w' : World) : Prop := ∃ r : Int, e = .returned (.int .i64 r) ∧ a ≤ r ∧ r ≤ b ∧ TapeAt w' tb ∧ w.grownBy w' (some tb)

set_option maxHeartbeats 1000000 in
theorem Range_any (tb : Nat) (a b : Int) (w : World) (ht : TapeAt w tb) (hab : a ≤ b) (ha : -1000000000000000 ≤ a) (hb : b ≤ 1000000000000000) :
    Calls Tryz.prog 27 #[.pointer (some ⟨tb, 0, none⟩), .int .i64 a, .int .i64 b] w (RangePost tb a b w) := by
  have HN := Lib.hid (N_any tb (b - a + 1) w ht (by omega) (by omega))
  clear ht
  go_enter Tryz.func27, Tryz.ntmps27
  go_wp2_with fail
  refine (HN.out).mono ?_
  rintro e w' ⟨r, rfl, r0, r1, t1, g1⟩
  go_wp2
  go_ret
  exact ⟨a + r, rfl, by omega, by omega, t1, g1⟩

end Go.Proofs.YtdgckdmgplpobaaGreatDoor

/- Plain mathematics of reading a code byte by byte, as the reference does; of no function of the program; no condition. -/
namespace Go.Proofs.YtdgckdmgplpobaaGreatDoor
open Go.RowKit Go.Lib Go.Proofs

def dval (l : List UInt8) : Nat := l.foldl (fun a c => 10 * a + (c.toNat - 48)) 0
theorem dval_snoc (l : List UInt8) (c : UInt8) : dval (l ++ [c]) = 10 * dval l + (c.toNat - 48) := by simp [dval]

theorem dval_acc : ∀ (l : List UInt8) (a : Nat), (∀ c ∈ l, digitB c = true) → l.foldl (fun a c => 10 * a + (c.toNat - 48)) a < (a + 1) * 10 ^ l.length
  | [], a, _ => by simp
  | c :: l, a, h => by
    have h2 := h c (by simp)
    unfold digitB at h2
    have h2 := of_decide_eq_true h2
    have ih := dval_acc l (10 * a + (c.toNat - 48)) fun x hx => h x (by simp [hx])
    rw [List.foldl_cons, List.length_cons, Nat.pow_succ]
    have h3 : (10 * a + (c.toNat - 48) + 1) * 10 ^ l.length ≤ (10 * (a + 1)) * 10 ^ l.length := Nat.mul_le_mul_right _ (by omega)
    have h4 : (10 * (a + 1)) * 10 ^ l.length = (a + 1) * (10 ^ l.length * 10) := by rw [Nat.mul_comm 10 (a + 1), Nat.mul_assoc, Nat.mul_comm 10]
    omega
theorem dval_lt (l : List UInt8) (h : ∀ c ∈ l, digitB c = true) : dval l < 10 ^ l.length := by
  have := dval_acc l 0 h
  simpa [dval] using this

def pointed (ws : List (List UInt8)) : List UInt8 := ws.flatMap (· ++ [46])
theorem pointed_snoc (ws : List (List UInt8)) (x : List UInt8) : pointed (ws ++ [x]) = pointed ws ++ x ++ [46] := by simp [pointed]

theorem wordsL_pointed : ∀ (ws : List (List UInt8)) (t : List UInt8), (∀ w ∈ ws, (46 : UInt8) ∉ w) → wordsL 46 (pointed ws ++ t) = ws ++ wordsL 46 t
  | [], t, _ => rfl
  | a :: ws, t, h => by
    have : pointed (a :: ws) ++ t = a ++ 46 :: (pointed ws ++ t) := by simp [pointed]
    rw [this, wordsL_app (h a (by simp)), wordsL_pointed ws t fun w hw => h w (by simp [hw])]
    rfl

theorem numsB_no_point {ws : List (List UInt8)} {vs : List Nat} (h : numsB (ws.map txt) = some vs) : ∀ w ∈ ws, (46 : UInt8) ∉ w := by
  obtain ⟨h1, h2⟩ := numsB_inv h
  intro w hw
  rw [h1] at hw
  obtain ⟨n, hn, rfl⟩ := List.mem_map.1 hw
  exact no_point (h2 n hn).2

theorem digit_cases {c : UInt8} (h : digitB c = true) : ∃ d : Nat, d < 10 ∧ c = UInt8.ofNat (48 + d) ∧ c.toNat = 48 + d := by
  unfold digitB at h
  have h := of_decide_eq_true h
  refine ⟨c.toNat - 48, by omega, ?_, by omega⟩
  apply UInt8.toNat_inj.1
  rw [show 48 + (c.toNat - 48) = c.toNat by omega]
  simp

theorem numW_digits {l : List UInt8} (h : ∀ c ∈ l, digitB c = true) (h0 : 1 ≤ l.length) (h2 : l.length ≤ 2) (hz : l.getD 0 0 ≠ 48) : numW l = some (dval l) := by
  refine numW_some.2 ?_
  match l, h, h0, h2, hz with
  | [a], h, _, _, hz =>
    obtain ⟨d, hd, rfl, hv⟩ := digit_cases (h a (by simp))
    have hne : d ≠ 0 := fun e => hz (by subst e; rfl)
    have hval : dval [UInt8.ofNat (48 + d)] = d := by simp only [dval, List.foldl_cons, List.foldl_nil, hv]; omega
    rw [hval]
    exact ⟨by omega, dec_one d hd⟩
  | [a, b], h, _, _, hz =>
    obtain ⟨d, hd, rfl, hv⟩ := digit_cases (h a (by simp))
    obtain ⟨e, he, rfl, hw⟩ := digit_cases (h b (by simp))
    have hne : d ≠ 0 := fun e => hz (by subst e; rfl)
    have hval : dval [UInt8.ofNat (48 + d), UInt8.ofNat (48 + e)] = 10 * d + e := by simp only [dval, List.foldl_cons, List.foldl_nil, hv, hw]; omega
    rw [hval]
    refine ⟨by omega, ?_⟩
    rw [dec_two _ (by omega) (by omega), show (10 * d + e) / 10 = d by omega, show (10 * d + e) % 10 = e by omega]

theorem numW_shape {l : List UInt8} {v : Nat} (h : numW l = some v) : 1 ≤ l.length ∧ l.length ≤ 2 ∧ l.getD 0 0 ≠ 48 ∧ ∀ c ∈ l, digitB c = true := by
  obtain ⟨h1, rfl⟩ := numW_some.1 h
  refine ⟨?_, ?_, ?_, dec_digits v (by omega)⟩
  · by_cases h10 : v < 10
    · rw [dec_one v h10]; simp
    · rw [dec_two v (by omega) (by omega)]; simp
  · by_cases h10 : v < 10
    · rw [dec_one v h10]; simp
    · rw [dec_two v (by omega) (by omega)]; simp
  · intro e
    by_cases h10 : v < 10
    · rw [dec_one v h10] at e
      have := congrArg UInt8.toNat e
      simp only [List.getD_cons_zero, ofNat_toNat v (by omega)] at this
      have e48 : (48 : UInt8).toNat = 48 := rfl
      omega
    · rw [dec_two v (by omega) (by omega)] at e
      have := congrArg UInt8.toNat e
      simp only [List.getD_cons_zero, ofNat_toNat (v / 10) (by omega)] at this
      have e48 : (48 : UInt8).toNat = 48 := rfl
      omega

structure ReadTo (D : List UInt8) (i : Nat) (out : List Nat) (n g : Nat) : Prop where
  le : i ≤ D.length
  got : ∃ ws cur, D.take i = pointed ws ++ cur ∧ numsB (ws.map txt) = some out ∧ (∀ c ∈ cur, digitB c = true) ∧ n = dval cur ∧ g = cur.length

theorem ReadTo.start (D : List UInt8) : ReadTo D 0 [] 0 0 := ⟨Nat.zero_le _, [], [], rfl, rfl, by simp, rfl, rfl⟩

theorem ReadTo.bounds {D : List UInt8} {i : Nat} {out : List Nat} {n g : Nat} (h : ReadTo D i out n g) : g ≤ i ∧ n < 10 ^ g ∧ out.length ≤ i ∧ ∀ (_ : 1 ≤ g) (hi : i - g < D.length), ∃ ws cur, D.take i = pointed ws ++ cur ∧ g = cur.length ∧ D[i - g] = cur.getD 0 0 := by
  obtain ⟨hle, ws, cur, h1, h2, h3, rfl, rfl⟩ := h
  have hlen := congrArg List.length h1
  rw [List.length_take, Nat.min_eq_left hle, List.length_append] at hlen
  refine ⟨by omega, dval_lt cur h3, ?_, fun hg hi => ⟨ws, cur, h1, rfl, ?_⟩⟩
  · have := numsB_length h2
    have hp : ws.length ≤ (pointed ws).length := by
      clear h1 h2 this hlen
      induction ws with
      | nil => simp
      | cons a t ih => simp [pointed] at ih ⊢; omega
    rw [this, List.length_map]; omega
  · have hx : (D.take i)[i - cur.length]? = some D[i - cur.length] := by
      rw [List.getElem?_take, if_pos (by omega), List.getElem?_eq_getElem hi]
    rw [h1, List.getElem?_append_right (by omega), show i - cur.length - (pointed ws).length = 0 by omega] at hx
    rw [List.getD, hx]; rfl

theorem ReadTo.digit {D : List UInt8} {i : Nat} {out : List Nat} {n g : Nat} (h : ReadTo D i out n g) (hi : i < D.length) (hd : digitB D[i] = true) : ReadTo D (i + 1) out (10 * n + (D[i].toNat - 48)) (g + 1) := by
  obtain ⟨hle, ws, cur, h1, h2, h3, rfl, rfl⟩ := h
  refine ⟨hi, ws, cur ++ [D[i]], ?_, h2, ?_, (dval_snoc _ _).symm, by simp⟩
  · rw [List.take_succ_eq_append_getElem hi, h1, List.append_assoc]
  · intro c hc
    rcases List.mem_append.1 hc with hc | hc
    · exact h3 c hc
    · rw [List.mem_singleton.1 hc]; exact hd

theorem numsB_snocL {ws : List (List UInt8)} {out : List Nat} {cur : List UInt8} {v : Nat} (h : numsB (ws.map txt) = some out) (hc : numW cur = some v) : numsB ((ws ++ [cur]).map txt) = some (out ++ [v]) := by
  rw [List.map_append, List.map_cons, List.map_nil, numsB_snoc, h, txt_list, hc]

theorem ReadTo.point {D : List UInt8} {i : Nat} {out : List Nat} {n g : Nat} (h : ReadTo D i out n g) (hi : i < D.length) (hp : D[i] = 46) (h1 : 1 ≤ g) (h2 : g ≤ 2) (hz : D[i - g]'(by omega) ≠ 48) : ReadTo D (i + 1) (out ++ [n]) 0 0 := by
  have hb := h.bounds.2.2.2 h1 (by omega)
  obtain ⟨hle, ws, cur, e1, e2, e3, rfl, rfl⟩ := h
  obtain ⟨ws', cur', f1, f2, f3⟩ := hb
  have hcur : cur' = cur := by
    rw [e1] at f1
    exact (List.append_inj_right' f1 f2.symm.symm).symm
  rw [f3, hcur] at hz
  have hn := numW_digits e3 h1 h2 hz
  exact ⟨hi, ws ++ [cur], [], by rw [List.take_succ_eq_append_getElem hi, e1, hp, pointed_snoc, List.append_nil], numsB_snocL e2 hn, by simp, rfl, rfl⟩

theorem ReadTo.last {D : List UInt8} {out : List Nat} {n g : Nat} (h : ReadTo D D.length out n g) (h1 : 1 ≤ g) (h2 : g ≤ 2) (hg : g ≤ D.length) (hz : D[D.length - g]'(by omega) ≠ 48) : numsB ((wordsL 46 D).map txt) = some (out ++ [n]) := by
  have hb := h.bounds.2.2.2 h1 (by omega)
  obtain ⟨hle, ws, cur, e1, e2, e3, rfl, rfl⟩ := h
  obtain ⟨ws', cur', f1, f2, f3⟩ := hb
  have hcur : cur' = cur := by
    rw [e1] at f1
    exact (List.append_inj_right' f1 f2.symm.symm).symm
  rw [f3, hcur] at hz
  have hn := numW_digits e3 h1 h2 hz
  rw [List.take_length] at e1
  rw [e1, wordsL_pointed ws cur (numsB_no_point e2), wordsL_no fun hm => by have := e3 _ hm; revert this; decide]
  exact numsB_snocL e2 hn

theorem partsN_none {s : ByteArray} (h : ∀ vs, numsB ((wordsL 46 s.data.toList).map txt) ≠ some vs) : partsN s = [] := by
  unfold partsN wordsB
  cases hn : numsB ((wordsL 46 s.data.toList).map txt) with
  | none => rfl
  | some vs => exact absurd hn (h vs)

theorem wordsL_split (D : List UInt8) : ∀ (ws : List (List UInt8)) (cur rest : List UInt8), (∀ w ∈ ws, (46 : UInt8) ∉ w) → (46 : UInt8) ∉ cur → D = pointed ws ++ (cur ++ rest) → ∃ t u, wordsL 46 D = ws ++ (cur ++ t) :: u ∧ (∀ c r, rest = c :: r → c ≠ 46 → ∃ t', t = c :: t') ∧ ((rest = [] ∨ ∃ r, rest = 46 :: r) → t = []) := by
  intro ws cur rest hw hc hD
  rw [hD, wordsL_pointed ws _ hw]
  have key : ∀ (cur : List UInt8), (46 : UInt8) ∉ cur → ∃ t u, wordsL 46 (cur ++ rest) = (cur ++ t) :: u ∧ wordsL 46 rest = t :: u := by
    intro cur hc
    induction cur with
    | nil =>
      cases hr : wordsL 46 rest with
      | nil => exact absurd hr (wordsL_ne 46 rest)
      | cons t u => exact ⟨t, u, hr, rfl⟩
    | cons x cur ih =>
      simp only [List.mem_cons, not_or] at hc
      obtain ⟨t, u, h1, h2⟩ := ih hc.2
      refine ⟨t, u, ?_, h2⟩
      rw [List.cons_append, wordsL, if_neg (fun e => hc.1 e.symm), h1]
      rfl
  obtain ⟨t, u, h1, h2⟩ := key cur hc
  refine ⟨t, u, by rw [h1], fun c r hr hne => ?_, fun h => ?_⟩
  · rw [hr, wordsL, if_neg hne] at h2
    cases hx : wordsL 46 r with
    | nil => exact absurd hx (wordsL_ne 46 r)
    | cons a b => rw [hx] at h2; injection h2 with h2 _; exact ⟨a, h2.symm⟩
  · rcases h with h | ⟨r, h⟩
    · rw [h] at h2; injection h2 with h2 _; exact h2.symm
    · rw [h, wordsL, if_pos rfl] at h2; injection h2 with h2 _; exact h2.symm

theorem numsB_mem {l : List (List UInt8)} {vs : List Nat} (h : numsB (l.map txt) = some vs) : ∀ w ∈ l, ∃ v, numW w = some v := by
  obtain ⟨h1, h2⟩ := numsB_inv h
  intro w hw
  rw [h1] at hw
  obtain ⟨n, hn, rfl⟩ := List.mem_map.1 hw
  exact ⟨n, numW_some.2 ⟨h2 n hn, rfl⟩⟩

theorem ReadTo.badWord {s : ByteArray} {i : Nat} {out : List Nat} {n g : Nat} (h : ReadTo s.data.toList i out n g) (hend : i = s.data.toList.length ∨ ∃ h : i < s.data.toList.length, s.data.toList[i] = 46)
    (hbad : g = 0 ∨ 2 < g ∨ ∃ h : i - g < s.data.toList.length, s.data.toList[i - g] = 48) : partsN s = [] := by
  have hb := h.bounds.2.2.2
  obtain ⟨hle, ws, cur, e1, e2, e3, rfl, rfl⟩ := h
  have h46 : (46 : UInt8) ∉ cur := fun hm => by have := e3 _ hm; revert this; decide
  have hD : s.data.toList = pointed ws ++ (cur ++ s.data.toList.drop i) := by rw [← List.append_assoc, ← e1, List.take_append_drop]
  obtain ⟨t, u, f1, _, f3⟩ := wordsL_split _ ws cur _ (numsB_no_point e2) h46 hD
  have ht : t = [] := f3 (by
    rcases hend with rfl | ⟨hi, hp⟩
    · exact Or.inl (List.drop_length)
    · exact Or.inr ⟨s.data.toList.drop (i + 1), by rw [List.drop_eq_getElem_cons hi, hp]⟩)
  rw [ht, List.append_nil] at f1
  refine partsN_none fun vs hvs => ?_
  obtain ⟨v, hv⟩ := numsB_mem hvs cur (by rw [f1]; simp)
  obtain ⟨g1, g2, g3, _⟩ := numW_shape hv
  rcases hbad with hb0 | hb0 | ⟨hi, hb0⟩
  · omega
  · omega
  · obtain ⟨ws', cur', k1, k2, k3⟩ := hb (by omega) hi
    have hcur : cur' = cur := by
      rw [e1] at k1
      exact (List.append_inj_right' k1 k2).symm
    rw [k3, hcur] at hb0
    exact g3 hb0

theorem ReadTo.badByte {s : ByteArray} {i : Nat} {out : List Nat} {n g : Nat} (h : ReadTo s.data.toList i out n g) (hi : i < s.data.toList.length) (hp : s.data.toList[i] ≠ 46) (hd : digitB s.data.toList[i] = false) : partsN s = [] := by
  obtain ⟨hle, ws, cur, e1, e2, e3, rfl, rfl⟩ := h
  have h46 : (46 : UInt8) ∉ cur := fun hm => by have := e3 _ hm; revert this; decide
  have hD : s.data.toList = pointed ws ++ (cur ++ s.data.toList.drop i) := by rw [← List.append_assoc, ← e1, List.take_append_drop]
  obtain ⟨t, u, f1, f2, _⟩ := wordsL_split _ ws cur _ (numsB_no_point e2) h46 hD
  obtain ⟨t', ht⟩ := f2 s.data.toList[i] (s.data.toList.drop (i + 1)) (List.drop_eq_getElem_cons hi) hp
  refine partsN_none fun vs hvs => ?_
  obtain ⟨v, hv⟩ := numsB_mem hvs (cur ++ t) (by rw [f1]; simp)
  have := (numW_shape hv).2.2.2 s.data.toList[i] (by rw [ht]; simp)
  rw [hd] at this; cases this

theorem partsN_long {s : ByteArray} (h : 12 < s.size) : partsN s = [] := by
  by_cases hp : partsN s = []
  · exact hp
  · obtain ⟨h1, h2⟩ := partsN_inv hp
    have := codeT_size h1
    rw [← h2] at this
    omega

theorem partsN_of {s : ByteArray} {vs : List Nat} (h : numsB ((wordsL 46 s.data.toList).map txt) = some vs) : partsN s = if vs.length ≤ 4 then vs else [] := by
  unfold partsN wordsB
  rw [h]

end Go.Proofs.YtdgckdmgplpobaaGreatDoor

/- The contract of Parts of the classification's reference: the numbers of a code, and nothing for a text that is none; for texts of up to 10^6 bytes. -/
namespace Go.Proofs.YtdgckdmgplpobaaGreatDoor
open Go.RowKit Go.Lib Go.Proofs

theorem byte_int {a : UInt8} {n : Nat} (h : a.toNat = n) (hn : n < 256) : a = UInt8.ofNat n := by
  apply UInt8.toNat_inj.1
  rw [h]; simp; omega

theorem pow_le12 {g : Nat} (h : g ≤ 12) : 10 ^ g ≤ 1000000000000 := by
  have : 10 ^ g ≤ 10 ^ 12 := Nat.pow_le_pow_right (by omega) h
  simpa using this

set_option maxRecDepth 100000 in
set_option maxHeartbeats 8000000 in
theorem rclParts_any (s : ByteArray) (w : World) (hs : s.size ≤ 1000000) :
    Calls Tryz.prog 23 #[.string s] w (PartsPost w (partsN s)) := by
  obtain ⟨i0, hi, hz0, hz1, hz2⟩ := infoI_parts
  obtain ⟨P, hP⟩ : ∃ P, partsN s = P := ⟨_, rfl⟩
  rw [hP]
  have HP := Lib.hid hP
  clear hP
  have hnil : ∀ (W : World), PartsPost w [] (.returned (.slice none 0 0)) W ↔ Below w.heap.size w W := fun W => ⟨fun ⟨_, _, _, h⟩ => h, fun h => ⟨_, rfl, World.ownsRow_nil _ _ _ _, h⟩⟩
  have HNIL := Lib.hid hnil
  clear hnil
  by_cases h12 : 12 < s.size
  · have hp0 : P = [] := by rw [← HP.out]; exact partsN_long h12
    subst hp0
    have h12' : (12 : Int) < (s.size : Int) := by omega
    go_enter Tryz.func23, Tryz.ntmps23
    go_wp2
    go_ret
    exact (HNIL.out _).2 (Below.refl _ _)
  · have h12' : (s.size : Int) ≤ 12 := by omega
    have hlen : s.data.toList.length = s.size := (size_list s).symm
    have HLEN := Lib.hid hlen
    clear hlen
    go_enter Tryz.func23, Tryz.ntmps23
    go_wp2
    go_loopw [3, 4, 5, 6] (fun v a b i wr => ∃ (k g n : Nat) (out : List Nat), a = .int .i64 n ∧ b = .int .i64 g ∧ i = .int .i64 k ∧ k ≤ s.size + 1 ∧ Hid (wr.ownsRow w.heap.size 3 1 v out.length (cellsI (asInts out))) ∧ Hid (Below w.heap.size w wr) ∧
      Hid ((k ≤ s.size ∧ ReadTo s.data.toList k out n g) ∨ (k = s.size + 1 ∧ numsB ((wordsL 46 s.data.toList).map txt) = some out))) (fun _ _ _ i _ => s.size + 1 - (RowKit.intOf i).toNat)
    case atStart => exact ⟨0, 0, 0, [], rfl, rfl, rfl, by omega, Lib.hid (World.ownsRow_nil _ _ _ _), Lib.hid (Below.refl _ _), Lib.hid (Or.inl ⟨by omega, ReadTo.start _⟩)⟩
    case round =>
      obtain ⟨k, g, n, out, rfl, rfl, rfl, hk, HO, HB, HR⟩ := hrel
      obtain ⟨ao, cap, rfl, hcap, _, _⟩ := owned_ints HO.out
      rcases HR.out with ⟨hks, hrt⟩ | ⟨rfl, hnum⟩
      · obtain ⟨b1, b2, b3, b4⟩ := hrt.bounds
        have b5 := pow_le12 (g := g) (by omega)
        have hn12 : (n : Int) ≤ 1000000000000 := by omega
        have hkle : (k : Int) ≤ (s.size : Int) := by omega
        clear b4 b5
        have hget : ∀ j (h : j < s.size), s.data.toList[j]'(by rw [HLEN.out]; exact h) = s[j] := fun j h => rfl
        by_cases hend : k = s.size ∨ ∃ h : k < s.size, s[k] = 46
        · have hend2 : k = s.data.toList.length ∨ ∃ h : k < s.data.toList.length, s.data.toList[k] = 46 := by
            rcases hend with h | ⟨h, h2⟩
            · exact Or.inl (by rw [HLEN.out]; exact h)
            · exact Or.inr ⟨by rw [HLEN.out]; exact h, h2⟩
          by_cases hg0 : g = 0
          · have hp0 : P = [] := by rw [← HP.out]; exact hrt.badWord hend2 (Or.inl hg0)
            subst hp0
            subst hg0
            clear hrt HR hend2 hget
            rcases hend with rfl | ⟨hlt, hby⟩
            · go_wp2
              go_ret
              exact (HNIL.out _).2 HB.out
            · have hq : ((k : Int) == (s.size : Int)) = false := by rw [beq_eq_false_iff_ne]; omega
              have hb : ((s[k].toNat : Int) == 46) = true := by rw [hby]; rfl
              clear hby
              go_wp2
              go_ret
              exact (HNIL.out _).2 HB.out
          · have hg0' : ((g : Int) == 0) = false := by rw [beq_eq_false_iff_ne]; omega
            by_cases hg2 : 2 < g
            · have hp0 : P = [] := by rw [← HP.out]; exact hrt.badWord hend2 (Or.inr (Or.inl hg2))
              subst hp0
              have hg2' : (2 : Int) < (g : Int) := by omega
              clear hrt HR hend2 hget
              rcases hend with rfl | ⟨hlt, hby⟩
              · go_wp2
                go_ret
                exact (HNIL.out _).2 HB.out
              · have hq : ((k : Int) == (s.size : Int)) = false := by rw [beq_eq_false_iff_ne]; omega
                have hb : ((s[k].toNat : Int) == 46) = true := by rw [hby]; rfl
                clear hby
                go_wp2
                go_ret
                exact (HNIL.out _).2 HB.out
            · have hg2' : (g : Int) ≤ 2 := by omega
              obtain ⟨j, hj⟩ : ∃ j, j = k - g := ⟨_, rfl⟩
              have hjs : j < s.size := by omega
              have hjl : j < s.data.toList.length := by rw [HLEN.out]; exact hjs
              by_cases hz : s[j] = 48
              · have hp0 : P = [] := by rw [← HP.out]; exact hrt.badWord hend2 (Or.inr (Or.inr ⟨by rw [← hj]; exact hjl, by subst hj; exact hz⟩))
                subst hp0
                have hz' : ((s[j].toNat : Int) == 48) = true := by rw [hz]; rfl
                obtain rfl : k = j + g := by omega
                clear hrt HR hend2 hget hz hj
                have hj0 : (0 : Int) ≤ (j : Int) := by omega
                have hj1 : (j : Int) < (s.size : Int) := by omega
                rcases hend with hke | ⟨hlt, hby⟩
                · have hq : ((j : Int) + (g : Int) == (s.size : Int)) = true := by rw [beq_iff_eq]; omega
                  clear hke
                  go_wp2
                  go_ret
                  exact (HNIL.out _).2 HB.out
                · have hq : ((j : Int) + (g : Int) == (s.size : Int)) = false := by rw [beq_eq_false_iff_ne]; omega
                  have hb : ((s[j + g].toNat : Int) == 46) = true := by rw [hby]; rfl
                  clear hby
                  go_wp2
                  go_ret
                  exact (HNIL.out _).2 HB.out
              · have hz' : ((s[j].toNat : Int) == 48) = false := by
                  rw [beq_eq_false_iff_ne]
                  intro e
                  exact hz (UInt8.toNat_inj.1 (by have e48 : (48 : UInt8).toNat = 48 := rfl; omega))
                have hnew : Hid ((k + 1 ≤ s.size ∧ ReadTo s.data.toList (k + 1) (out ++ [n]) 0 0) ∨ (k + 1 = s.size + 1 ∧ numsB ((wordsL 46 s.data.toList).map txt) = some (out ++ [n]))) := by
                  refine Lib.hid ?_
                  rcases hend with rfl | ⟨hlt, hby⟩
                  · refine Or.inr ⟨rfl, ?_⟩
                    have h2 : ReadTo s.data.toList s.data.toList.length out n g := by rw [HLEN.out]; exact hrt
                    refine h2.last (by omega) (by omega) (by rw [HLEN.out]; omega) ?_
                    intro e
                    refine hz ?_
                    subst hj
                    rw [← hget _ hjs, ← e]
                    congr 1
                  · refine Or.inl ⟨by omega, ?_⟩
                    refine hrt.point (by rw [HLEN.out]; exact hlt) hby (by omega) (by omega) ?_
                    intro e
                    refine hz ?_
                    subst hj
                    exact e
                obtain rfl : k = j + g := by omega
                clear hrt HR hend2 hget hz hj
                have hj0 : (0 : Int) ≤ (j : Int) := by omega
                have hj1 : (j : Int) < (s.size : Int) := by omega
                have hbw := HB.out.size
                have hol : out.length ≤ 12 := by omega
                rcases hend with hke | ⟨hlt, hby⟩
                · have hq : ((j : Int) + (g : Int) == (s.size : Int)) = true := by rw [beq_iff_eq]; omega
                  clear hke
                  go_wp2_with (at_builtin; refine wpList_append_own _ rfl _ _ 22 rfl w.heap.size 3 i0 (.int .i64 0) 1 8 Tryz.underlying22 hi hz0 hz1 hz2 rfl (by decide) _ _ _ rfl (HO.out.alloc _) ⟨wr.heap.size, 0, none⟩ 1 1 [.int .i64 (n : Int)] rfl rfl (one_new _ _ _ _ rfl) (one_int _ _) (by unfold maxLen; omega) (by omega) (by simp; omega) ?_; intro v' w5 hown5 hgr5 _)
                  have hB5 : Below w.heap.size w w5 := ((HB.out.alloc HB.out.size _).grown hgr5 (by simp; omega) fun j e => ownBlock_le HO.out j e)
                  have HO5 := Lib.hid hown5
                  have HB5 := Lib.hid hB5
                  clear hown5 hB5 hgr5
                  go_roundw
                  case rel => exact ⟨j + g + 1, 0, 0, out ++ [n], rfl, rfl, by go_num, by omega, Lib.hid (by rw [asInts_snoc, ← cellsI_snoc, List.length_append]; exact HO5.out), HB5, hnew⟩
                  case measure => simp [RowKit.intOf]; omega
                · have hq : ((j : Int) + (g : Int) == (s.size : Int)) = false := by rw [beq_eq_false_iff_ne]; omega
                  have hb : ((s[j + g].toNat : Int) == 46) = true := by rw [hby]; rfl
                  clear hby
                  go_wp2_with (at_builtin; refine wpList_append_own _ rfl _ _ 22 rfl w.heap.size 3 i0 (.int .i64 0) 1 8 Tryz.underlying22 hi hz0 hz1 hz2 rfl (by decide) _ _ _ rfl (HO.out.alloc _) ⟨wr.heap.size, 0, none⟩ 1 1 [.int .i64 (n : Int)] rfl rfl (one_new _ _ _ _ rfl) (one_int _ _) (by unfold maxLen; omega) (by omega) (by simp; omega) ?_; intro v' w5 hown5 hgr5 _)
                  have hB5 : Below w.heap.size w w5 := ((HB.out.alloc HB.out.size _).grown hgr5 (by simp; omega) fun j e => ownBlock_le HO.out j e)
                  have HO5 := Lib.hid hown5
                  have HB5 := Lib.hid hB5
                  clear hown5 hB5 hgr5
                  go_roundw
                  case rel => exact ⟨j + g + 1, 0, 0, out ++ [n], rfl, rfl, by go_num, by omega, Lib.hid (by rw [asInts_snoc, ← cellsI_snoc, List.length_append]; exact HO5.out), HB5, hnew⟩
                  case measure => simp [RowKit.intOf]; omega
        · have hlt : k < s.size := by
            rcases Nat.lt_or_ge k s.size with h | h
            · exact h
            · exact absurd (Or.inl (by omega)) hend
          have hne : s[k] ≠ 46 := fun e => hend (Or.inr ⟨hlt, e⟩)
          have hkl : k < s.data.toList.length := by rw [HLEN.out]; exact hlt
          have hq : ((k : Int) == (s.size : Int)) = false := by rw [beq_eq_false_iff_ne]; omega
          have hb : ((s[k].toNat : Int) == 46) = false := by
            rw [beq_eq_false_iff_ne]
            intro e
            exact hne (UInt8.toNat_inj.1 (by have e46 : (46 : UInt8).toNat = 46 := rfl; omega))
          by_cases hd : 48 ≤ s[k].toNat ∧ s[k].toNat ≤ 57
          · have hstep := hrt.digit hkl (decide_eq_true hd)
            have HST := Lib.hid hstep
            have hby := hget k hlt
            have hd1 : (48 : Int) ≤ (s[k].toNat : Int) := by omega
            have hd2 : (s[k].toNat : Int) ≤ 57 := by omega
            clear hrt HR hget hend hne hstep hby
            go_wp2
            go_roundw
            case rel =>
              refine ⟨k + 1, g + 1, 10 * n + (s[k].toNat - 48), out, ?_, by go_num, by go_num, by omega, HO, HB, Lib.hid (Or.inl ⟨by omega, HST.out⟩)⟩
              congr 1
              omega
            case measure => simp [RowKit.intOf]; omega
          · have hp0 : P = [] := by rw [← HP.out]; exact hrt.badByte hkl hne (decide_eq_false hd)
            subst hp0
            clear hrt HR hget hend hne
            by_cases h48 : s[k].toNat < 48
            · have h48' : (s[k].toNat : Int) < 48 := by omega
              go_wp2
              go_ret
              exact (HNIL.out _).2 HB.out
            · have h48' : (48 : Int) ≤ (s[k].toNat : Int) := by omega
              have h57' : (57 : Int) < (s[k].toNat : Int) := by omega
              go_wp2
              go_ret
              exact (HNIL.out _).2 HB.out
      · have hpo := partsN_of hnum
        rw [HP.out] at hpo
        have hge : (s.size : Int) < (s.size : Int) + 1 := by omega
        by_cases h4 : out.length ≤ 4
        · rw [if_pos h4] at hpo
          have HPO := Lib.hid hpo
          have h4' : (out.length : Int) ≤ 4 := by omega
          clear hnum hpo HR
          go_wp2
          go_ret
          exact ⟨_, rfl, by rw [HPO.out]; exact HO.out, HB.out⟩
        · rw [if_neg h4] at hpo
          have HPO := Lib.hid hpo
          have h4' : (4 : Int) < (out.length : Int) := by omega
          clear hnum hpo HR
          go_wp2
          go_ret
          rw [HPO.out]
          exact (HNIL.out _).2 HB.out

end Go.Proofs.YtdgckdmgplpobaaGreatDoor

/- Contracts of Code and Compare of the classification's reference: the code with some numbers (of lists of up to 10^6 numbers), and the order of two codes (both of them codes). -/
namespace Go.Proofs.YtdgckdmgplpobaaGreatDoor
open Go.RowKit Go.Lib Go.Proofs

theorem codeT_snoc (ns : List Nat) (n : Nat) : codeT (ns ++ [n]) = if ns = [] then decB n else codeT ns ++ ⟨#[46]⟩ ++ decB n := by
  by_cases h : ns = []
  · subst h
    rw [if_pos rfl]
    apply bytes_ext
    rw [decB_list]
    unfold codeT
    rw [txt_list]
    rfl
  · rw [if_neg h]
    apply bytes_ext
    unfold codeT
    rw [txt_list, List.map_append, List.map_cons, List.map_nil, joinL_snoc 46 _ _ (by simpa using h), ByteArray.data_append, ByteArray.data_append, Array.toList_append, Array.toList_append, decB_list]
    show _ = ((txt (joinL 46 (ns.map decDigits))).data.toList ++ [46]) ++ decDigits n
    rw [txt_list, List.append_assoc]
    rfl

def OkI (l : List Int) : Prop := l.length ≤ 4 ∧ ∀ n ∈ l, 1 ≤ n ∧ n ≤ 99
def toNats (l : List Int) : List Nat := l.map Int.toNat

theorem toNats_take {l : List Int} {k : Nat} (hk : k < l.length) : toNats (l.take (k + 1)) = toNats (l.take k) ++ [l[k].toNat] := by
  unfold toNats
  rw [List.take_succ_eq_append_getElem hk, List.map_append]; rfl

theorem codeT_small {ns : List Nat} (h1 : ns.length ≤ 4) (h2 : ∀ n ∈ ns, n ≤ 99) : (codeT ns).size ≤ 20 := by
  have : ∀ (ns : List Nat), (∀ n ∈ ns, n ≤ 99) → (joinL 46 (ns.map decDigits)).length ≤ 4 * ns.length := by
    intro ns
    induction ns with
    | nil => intro _; simp [joinL]
    | cons a t ih =>
      intro h
      have ha := decB_size a (by have := h a (by simp); omega)
      have hs : (decB a).size = (decDigits a).length := by rw [size_list, decB_list]
      have it := ih fun n hn => h n (by simp [hn])
      cases t with
      | nil => simp only [List.map_cons, List.map_nil, joinL, List.length_cons, List.length_nil]; omega
      | cons b t => simp only [List.map_cons, joinL, List.length_cons, List.length_append] at it ⊢; omega
  have := this ns h2
  unfold codeT
  rw [txt_size]
  omega

set_option maxRecDepth 100000 in
set_option maxHeartbeats 4000000 in
theorem rclCode_any (l : List Int) (n : Nat) (v : Value) (w : World) (hr : RowAt w v l) (hl : l.length = n) (hv : ∃ ao cap, v = .slice ao n cap) (hok : OkI l) :
    Calls Tryz.prog 24 #[v] w fun e w' => e = .returned (.string (codeT (toNats l))) ∧ w = w' := by
  obtain ⟨h4, hall⟩ := hok
  have HALL := Lib.hid hall
  obtain ⟨ao, cap, rfl⟩ := hv
  have hcell : n = 0 ∨ ∃ b o, ao = some ⟨b, o, none⟩ ∧ ∀ i, i < n → w.cell? ⟨b, o + i, none⟩ = some (.int .i64 (l.getD i 0)) := by
    rcases hr with ⟨h0, _⟩ | ⟨b, o, c, hv, _, hc⟩
    · left; rw [← hl, h0]; rfl
    · right
      simp only [Value.slice.injEq] at hv
      exact ⟨b, o, hv.1, fun i hi => hc i (by rw [hl]; exact hi)⟩
  have HCE := Lib.hid hcell
  have HL := Lib.hid hl
  have hn4 : (n : Int) ≤ 4 := by omega
  have hn0 : n ≤ 4 := by omega
  clear hr hall hcell hl h4
  have hfin : toNats (l.take n) = toNats l := by rw [← HL.out, List.take_length]
  have HFIN := Lib.hid hfin
  clear hfin
  go_enter Tryz.func24, Tryz.ntmps24
  go_wp2
  go_loop [3, 11] (fun s i => ∃ k : Nat, i = .int .i64 k ∧ k ≤ n ∧ s = .string (codeT (toNats (l.take k)))) (fun _ i => n - (RowKit.intOf i).toNat)
  case atStart => exact ⟨0, rfl, by omega, rfl⟩
  case round =>
    obtain ⟨k, rfl, hkn, rfl⟩ := hrel
    by_cases hlt : k < n
    · rcases HCE.out with h | ⟨b, o, rfl, hc⟩
      · omega
      have hkl : k < l.length := by rw [HL.out]; exact hlt
      have hck := hc k hlt
      rw [getD_eq hkl] at hck
      obtain ⟨h1, h2⟩ := HALL.out l[k] (List.getElem_mem hkl)
      obtain ⟨x, hx⟩ : ∃ x : Nat, l[k] = x := ⟨l[k].toNat, by omega⟩
      have hst := toNats_take hkl
      rw [hx, Int.toNat_natCast] at hst
      rw [hx] at hck h1 h2
      have hsn := codeT_snoc (toNats (l.take k)) x
      rw [← hst] at hsn
      have hsz : (codeT (toNats (l.take k))).size ≤ 20 := codeT_small (by simp [toNats]; omega) (fun n hn => by
        obtain ⟨m, hm, rfl⟩ := List.mem_map.1 hn
        have := HALL.out m (List.mem_of_mem_take hm)
        omega)
      have hdz := decB_size x (by omega)
      have HI := Lib.hid (itoa_small x w (by omega))
      have hnil : k = 0 → toNats (l.take k) = [] := fun h => by subst h; rfl
      have hne : k ≠ 0 → toNats (l.take k) ≠ [] := fun h e => by
        have := congrArg List.length e
        simp only [toNats, List.length_map, List.length_take, List.length_nil] at this
        omega
      have hnext : (k = 0 → codeT (toNats (l.take (k + 1))) = codeT (toNats (l.take k)) ++ decB x) ∧ (k ≠ 0 → codeT (toNats (l.take (k + 1))) = codeT (toNats (l.take k)) ++ ⟨#[46]⟩ ++ decB x) := by
        refine ⟨fun h => ?_, fun h => ?_⟩
        · rw [hsn, if_pos (hnil h), hnil h]
          apply bytes_ext
          rw [ByteArray.data_append, Array.toList_append]
          rfl
        · rw [hsn, if_neg (hne h)]
      have HNE := Lib.hid hnext
      clear hsn hst hx hc hnil hne hnext
      generalize codeT (toNats (l.take k)) = t at *
      have a1 : ¬ 9223372036854775807 < t.size + (decB x).size := by omega
      have a2 : ¬ 9223372036854775807 < t.size + (⟨#[46]⟩ : ByteArray).size := by show ¬ 9223372036854775807 < t.size + 1; omega
      have a3 : ¬ 9223372036854775807 < t.size + 1 := by omega
      have a4 : ¬ 9223372036854775807 < t.size + 1 + (decB x).size := by omega
      by_cases h0 : k = 0
      · subst h0
        rw [Nat.add_zero] at hck
        have hn := HNE.out.1 rfl
        have HNN := Lib.hid hn
        clear hn
        go_wp2_with fail
        refine (HI.out).mono ?_
        rintro e w' ⟨rfl, rfl⟩
        go_wp2
        go_round
        case rel => exact ⟨1, by go_num, by omega, by rw [HNN.out]⟩
        case measure => simp [RowKit.intOf]; omega
      · have hn := HNE.out.2 h0
        have HNN := Lib.hid hn
        have hpos : (0 : Int) < (k : Int) := by omega
        clear hn
        go_wp2_with fail
        refine (HI.out).mono ?_
        rintro e w' ⟨rfl, rfl⟩
        go_wp2
        go_round
        case rel => exact ⟨k + 1, by go_num, by omega, by rw [HNN.out]⟩
        case measure => simp [RowKit.intOf]; omega
    · obtain rfl : k = n := by omega
      have hge : (k : Int) ≤ (k : Int) := Int.le_refl _
      rw [HFIN.out]
      go_wp2
      go_ret
      exact ⟨rfl, rfl⟩

set_option maxRecDepth 100000 in
set_option maxHeartbeats 8000000 in
theorem rclCompare_codes (a b : ByteArray) (w : World) (ha : a.size ≤ 1000000) (hb : b.size ≤ 1000000) (hca : isCodeB a = true) (hcb : isCodeB b = true) :
    Calls Tryz.prog 51 #[.string a, .string b] w fun e w' => e = .returned (.int .i64 (cmpCode a b)) ∧ Below w.heap.size w w' := by
  have HP := Lib.hid (rclParts_any a w ha)
  have HQ := Lib.hid (fun w' => rclParts_any b w' hb)
  have hla := partsN_len a
  have hlb := partsN_len b
  have hpa : partsN a ≠ [] := of_decide_eq_true hca
  have hpb : partsN b ≠ [] := of_decide_eq_true hcb
  obtain ⟨r, hr⟩ : ∃ r, cmpCode a b = r := ⟨_, rfl⟩
  rw [hr]
  unfold cmpCode at hr
  rw [if_neg (fun h => hpa h.1)] at hr
  have HR := Lib.hid hr
  have hn0 : 0 < (partsN a).length := List.length_pos_iff.2 hpa
  have hm0 : 0 < (partsN b).length := List.length_pos_iff.2 hpb
  clear hr hca hcb hpa hpb
  go_enter Tryz.func51, Tryz.ntmps51
  go_wp2_with fail
  refine (HP.out).mono ?_
  rintro e w1 ⟨v, rfl, ho, hb1⟩
  have HB1 := Lib.hid hb1
  have HO := Lib.hid ho
  clear hb1 ho
  go_wp2_with fail
  refine (HQ.out _).mono ?_
  rintro e w2 ⟨u, rfl, ho2, hb2⟩
  have ho1 := ownsRow_below HO.out hb2
  have HB2 := Lib.hid (HB1.out.trans (hb2.mono HB1.out.size))
  clear hb2 HO HB1 HP HQ
  obtain ⟨ao, c, rfl, _, hl1, hx⟩ := owned_ints ho1
  obtain ⟨ao', c', rfl, _, hl2, hy⟩ := owned_ints ho2
  clear ho1 ho2
  obtain ⟨xs, hxs⟩ : ∃ xs, xs = asInts (partsN a) := ⟨_, rfl⟩
  obtain ⟨ys, hys⟩ : ∃ ys, ys = asInts (partsN b) := ⟨_, rfl⟩
  rw [← hxs] at hx hl1
  rw [← hys] at hy hl2
  rw [← hxs, ← hys] at HR
  generalize (partsN a).length = n at *
  generalize (partsN b).length = m at *
  rcases hx with hx | ⟨g, rfl, hg, _, hx⟩
  · omega
  rcases hy with hy | ⟨g', rfl, hg', _, hy⟩
  · omega
  have HX := Lib.hid hx
  have HY := Lib.hid hy
  have HL1 := Lib.hid hl1
  have HL2 := Lib.hid hl2
  have hn1 : ((n : Int) == 0) = false := by rw [beq_eq_false_iff_ne]; omega
  have hm1 : ((m : Int) == 0) = false := by rw [beq_eq_false_iff_ne]; omega
  clear hx hy hl1 hl2 hxs hys
  go_wp2
  go_loopw [7] (fun i wr => ∃ (k q : Nat), i = .int .i64 k ∧ k ≤ n ∧ k ≤ m ∧ wr = w2.drewN q ∧ Hid (cmpL (xs.drop k) (ys.drop k) = r)) (fun i _ => n - (RowKit.intOf i).toNat)
  case atStart => exact ⟨0, 0, rfl, by omega, by omega, rfl, HR⟩
  case round =>
    obtain ⟨k, q, rfl, hkn, hkm, rfl, HK⟩ := hrel
    by_cases hlt : k < n
    · by_cases hlt2 : k < m
      · have c1 := HX.out k hlt
        have c2 := HY.out k hlt2
        have hd := cmpL_drop (xs := xs) (ys := ys) (k := k) (by rw [HL1.out]; exact hlt) (by rw [HL2.out]; exact hlt2)
        rw [HK.out] at hd
        generalize xs.getD k 0 = x at *
        generalize ys.getD k 0 = y at *
        have hk0 : (0 : Int) ≤ (k : Int) := by omega
        have hk1 : (k : Int) < (n : Int) := by omega
        have hk2 : (k : Int) < (m : Int) := by omega
        rw [Nat.zero_add] at c1 c2
        by_cases h1 : x < y
        · rw [if_pos h1] at hd
          have HD := Lib.hid hd
          clear hd
          go_wp2
          go_quiet (fail)
          go_wp2
          go_ret
          exact ⟨ret_int HD.out.symm, below_drewN (below_drewN HB2.out _) _⟩
        · rw [if_neg h1] at hd
          have h1' : y ≤ x := by omega
          by_cases h2 : y < x
          · rw [if_pos h2] at hd
            have HD := Lib.hid hd
            clear hd
            go_wp2
            go_quiet (fail)
            go_wp2
            go_quiet (fail)
            go_wp2
            go_ret
            exact ⟨ret_int HD.out.symm, below_drewN (below_drewN (below_drewN HB2.out _) _) _⟩
          · rw [if_neg h2] at hd
            have HD := Lib.hid hd
            have h2' : x ≤ y := by omega
            clear hd
            go_wp2
            go_quiet (fail)
            go_wp2
            go_quiet (fail)
            go_wp2
            go_roundw
            case rel => exact ⟨k + 1, _, by go_num, by omega, by omega, rfl, Lib.hid HD.out.symm⟩
            case measure => simp [RowKit.intOf]; omega
      · obtain rfl : k = m := by omega
        have hr1 : r = 1 := by
          have := HK.out
          rw [List.drop_eq_nil_of_le (show ys.length ≤ k by rw [HL2.out]; exact Nat.le_refl _), cmpL_le_nil, if_neg] at this
          · exact this.symm
          · intro e
            have := congrArg List.length e
            simp only [List.length_drop, HL1.out, List.length_nil] at this
            omega
        subst hr1
        have hkk : (k : Int) < (n : Int) := by omega
        have hkk2 : ¬ (n : Int) < (k : Int) := by omega
        have hge : (k : Int) ≤ (k : Int) := Int.le_refl _
        go_wp2
        go_ret
        exact ⟨rfl, below_drewN HB2.out _⟩
    · obtain rfl : k = n := by omega
      have hr1 : r = if k < m then -1 else 0 := by
        have := HK.out
        rw [List.drop_eq_nil_of_le (show xs.length ≤ k by rw [HL1.out]; exact Nat.le_refl _), cmpL_nil_le] at this
        rw [← this]
        by_cases hkm2 : k < m
        · rw [if_pos hkm2, if_neg]
          intro e
          have := congrArg List.length e
          simp only [List.length_drop, HL2.out, List.length_nil] at this
          omega
        · rw [if_neg hkm2, if_pos (List.drop_eq_nil_of_le (by rw [HL2.out]; omega))]
      have hge : (k : Int) ≤ (k : Int) := Int.le_refl _
      by_cases hkm2 : k < m
      · rw [if_pos hkm2] at hr1
        subst hr1
        have hlt3 : (k : Int) < (m : Int) := by omega
        go_wp2
        go_ret
        exact ⟨rfl, below_drewN HB2.out _⟩
      · rw [if_neg hkm2] at hr1
        subst hr1
        obtain rfl : k = m := by omega
        go_wp2
        go_ret
        exact ⟨rfl, below_drewN HB2.out _⟩

end Go.Proofs.YtdgckdmgplpobaaGreatDoor

/- The contract of treasurymake.with: some codes with one more, in order, each once; for lists of up to 1000 codes. -/
namespace Go.Proofs.YtdgckdmgplpobaaGreatDoor
open Go.RowKit Go.Lib Go.Proofs

def cmpN (a b : List Nat) : Int := cmpL (asInts a) (asInts b)

def insN (c : List Nat) : List (List Nat) → List (List Nat)
  | [] => [c]
  | x :: l => if cmpN c x < 0 then c :: x :: l else x :: insN c l

def withN (c : List Nat) (l : List (List Nat)) : List (List Nat) := if l.any (fun x => decide (cmpN c x = 0)) then l else insN c l

def doneB (c : List Nat) (l : List (List Nat)) : Bool := l.any fun x => decide (cmpN c x < 0)
def outN (c : List Nat) (l : List (List Nat)) : List (List Nat) := if doneB c l = true then insN c l else l

theorem insN_none {c : List Nat} : ∀ {l : List (List Nat)}, doneB c l = false → insN c l = l ++ [c]
  | [], _ => rfl
  | x :: l, h => by
    simp only [doneB, List.any_cons, Bool.or_eq_false_iff, decide_eq_false_iff_not] at h
    rw [insN, if_neg h.1, insN_none h.2]; rfl
theorem insN_done {c x : List Nat} : ∀ {l : List (List Nat)}, doneB c l = true → insN c (l ++ [x]) = insN c l ++ [x]
  | [], h => by simp [doneB] at h
  | y :: l, h => by
    by_cases hy : cmpN c y < 0
    · rw [List.cons_append, insN, if_pos hy, insN, if_pos hy]; rfl
    · have h2 : doneB c l = true := by simpa [doneB, hy] using h
      rw [List.cons_append, insN, if_neg hy, insN, if_neg hy, insN_done h2]; rfl
theorem insN_new {c x : List Nat} (hx : cmpN c x < 0) : ∀ {l : List (List Nat)}, doneB c l = false → insN c (l ++ [x]) = l ++ [c] ++ [x]
  | [], _ => by rw [List.nil_append, insN, if_pos hx]; rfl
  | y :: l, h => by
    simp only [doneB, List.any_cons, Bool.or_eq_false_iff, decide_eq_false_iff_not] at h
    rw [List.cons_append, insN, if_neg h.1, insN_new hx h.2]; rfl
theorem doneB_snoc (c x : List Nat) (l : List (List Nat)) : doneB c (l ++ [x]) = (doneB c l || decide (cmpN c x < 0)) := by simp [doneB]

theorem outN_done {c x : List Nat} {l : List (List Nat)} (h : doneB c l = true) : outN c (l ++ [x]) = outN c l ++ [x] := by
  unfold outN
  rw [doneB_snoc, h, Bool.true_or, if_pos rfl, if_pos rfl, insN_done h]
theorem outN_new {c x : List Nat} {l : List (List Nat)} (h : doneB c l = false) (hx : cmpN c x < 0) : outN c (l ++ [x]) = outN c l ++ [c] ++ [x] := by
  unfold outN
  rw [doneB_snoc, h, decide_eq_true hx, Bool.false_or, if_pos rfl, if_neg (by decide), insN_new hx h]
theorem outN_not {c x : List Nat} {l : List (List Nat)} (h : doneB c l = false) (hx : ¬ cmpN c x < 0) : outN c (l ++ [x]) = outN c l ++ [x] := by
  unfold outN
  rw [doneB_snoc, h, decide_eq_false hx, Bool.false_or, if_neg (by decide), if_neg (by decide)]
theorem outN_len (c : List Nat) (l : List (List Nat)) : (outN c l).length ≤ l.length + 1 := by
  have : (insN c l).length = l.length + 1 := by
    induction l with
    | nil => rfl
    | cons x l ih => unfold insN; split <;> simp [ih]
  unfold outN
  split <;> omega

def texts (l : List (List Nat)) : List ByteArray := l.map codeT
theorem texts_snoc (l : List (List Nat)) (x : List Nat) : texts (l ++ [x]) = texts l ++ [codeT x] := by simp [texts]
theorem texts_len (l : List (List Nat)) : (texts l).length = l.length := by simp [texts]

def WithPost (base : Nat) (l : List (List Nat)) (w : World) (e : Ending) (w' : World) : Prop :=
  ∃ v, e = .returned v ∧ w'.ownsRow base 9 1 v l.length (cellsS (texts l)) ∧ Below w.heap.size w w'

theorem own_texts {w : World} {base : Nat} {v : Value} {l : List (List Nat)} {s : ByteArray} {m : Nat} (h : w.ownsRow base 9 1 v (m + 1) (cellsS (texts l) ++ [.string s])) {x : List Nat} (hs : s = codeT x) (hm : l.length = m) : w.ownsRow base 9 1 v (l ++ [x]).length (cellsS (texts (l ++ [x]))) := by
  subst hs
  rw [texts_snoc, ← cellsS_app, List.length_append, hm]
  exact h

set_option maxRecDepth 100000 in
set_option maxHeartbeats 8000000 in
theorem with_any (base : Nat) (l : List (List Nat)) (c : List Nat) (v : Value) (w : World) (hbase : base ≤ w.heap.size) (ho : w.ownsRow base 9 1 v l.length (cellsS (texts l))) (hl : l.length ≤ 1000) (hg : ∀ x ∈ l, GoodN x) (hc : GoodN c) :
    Calls Tryz.prog 26 #[v, .string (codeT c)] w (WithPost base (withN c l) w) := by
  obtain ⟨i0, hi, hz0, hz1, hz2⟩ := infoS_parts
  obtain ⟨_, ao, cap, hv, hcap, hcells⟩ := RowG.owns ho
  obtain ⟨L, hL⟩ : ∃ L, withN c l = L := ⟨_, rfl⟩
  rw [hL]
  have HO := Lib.hid ho
  have HLL := Lib.hid hL
  have HG := Lib.hid hg
  have hcmp := fun x (hx : x ∈ l) W => rclCompare_codes (codeT c) (codeT x) W (by have := codeT_size hc; omega) (by have := codeT_size (hg x hx); omega) (isCodeB_codeT hc) (isCodeB_codeT (hg x hx))
  have hcmp2 : ∀ x, x ∈ l → ∀ W, Calls Tryz.prog 51 #[.string (codeT c), .string (codeT x)] W fun e w' => e = .returned (.int .i64 (cmpN c x)) ∧ Below W.heap.size W w' := fun x hx W => by
    have := hcmp x hx W
    rwa [cmpCode_codeT hc (hg x hx)] at this
  have HC := Lib.hid hcmp2
  obtain ⟨C, hC⟩ : ∃ C, codeT c = C := ⟨_, rfl⟩
  rw [hC] at HC ⊢
  have HCC := Lib.hid hC
  obtain ⟨n, hn⟩ : ∃ n, n = l.length := ⟨_, rfl⟩
  rw [← hn] at hcells
  rw [← hn] at HO hcap hl hv
  have HN := Lib.hid hn
  have HCE := Lib.hid hcells
  subst hv
  clear ho hL hg hcmp hcmp2 hC hn hcells hc
  go_enter Tryz.func26, Tryz.ntmps26
  go_wp2
  go_loopw [5, 6, 12] (fun u d i wr => ∃ k : Nat, i = .int .i64 k ∧ k ≤ n ∧ d = .bool (doneB c (l.take k)) ∧ Hid (wr.ownsRow w.heap.size 9 1 u (outN c (l.take k)).length (cellsS (texts (outN c (l.take k))))) ∧ Hid (Below w.heap.size w wr) ∧ Hid (∀ x ∈ l.take k, cmpN c x ≠ 0)) (fun _ _ i _ => n - (RowKit.intOf i).toNat)
  case atStart => exact ⟨0, rfl, by omega, rfl, Lib.hid (World.ownsRow_nil _ _ _ _), Lib.hid (Below.refl _ _), Lib.hid (by simp)⟩
  case round =>
    obtain ⟨k, rfl, hkn, rfl, HU, HB, HNE⟩ := hrel
    by_cases hlt : k < n
    · rcases HCE.out with h | ⟨b, o, rfl, hb, hc⟩
      · omega
      have hkl : k < l.length := by rw [← HN.out]; exact hlt
      have hcell : wr.cell? ⟨b, o + k, none⟩ = some (.string (codeT l[k])) := by
        rw [HB.out.cell (by exact hb), hc k (by omega), cellsS_get (texts l) k (by rw [texts_len]; exact hkl)]
        simp [texts]
      obtain ⟨x, hx⟩ : ∃ x, x = l[k] := ⟨_, rfl⟩
      rw [← hx] at hcell
      have hcall := HC.out x (by rw [hx]; exact List.getElem_mem hkl) wr
      have hsn : l.take (k + 1) = l.take k ++ [x] := by rw [hx]; exact List.take_succ_eq_append_getElem hkl
      have hlen : (l.take k).length ≤ k := List.length_take_le _ _
      obtain ⟨M, hM⟩ : ∃ M, M = l.take k := ⟨_, rfl⟩
      rw [← hM] at hsn hlen HU HNE ⊢
      have hol := outN_len c M
      have hon : (outN c M).length ≤ 1001 := by omega
      have hall : cmpN c x ≠ 0 → ∀ y ∈ l.take (k + 1), cmpN c y ≠ 0 := fun h y hy => by
        rw [hsn] at hy
        rcases List.mem_append.1 hy with hy | hy
        · exact HNE.out y hy
        · rw [List.mem_singleton.1 hy]; exact h
      have heqL : cmpN c x = 0 → L = l := fun h => by
        rw [← HLL.out]
        unfold withN
        rw [if_pos]
        exact List.any_eq_true.2 ⟨x, by rw [hx]; exact List.getElem_mem hkl, decide_eq_true h⟩
      obtain ⟨X, hX⟩ : ∃ X, X = codeT x := ⟨_, rfl⟩
      rw [← hX] at hcell hcall
      have HX := Lib.hid hX
      have HHALL := Lib.hid hall
      have HSN := Lib.hid hsn
      have HEQ := Lib.hid heqL
      have hnew : ∀ W, Below wr.heap.size wr W → W.ownsRow w.heap.size 9 1 u5 (outN c M).length (cellsS (texts (outN c M))) ∧ Below w.heap.size w W ∧ w.heap.size ≤ W.heap.size := fun W hW =>
        ⟨ownsRow_below HU.out hW, HB.out.trans (hW.mono HB.out.size), (HB.out.trans (hW.mono HB.out.size)).size⟩
      have HNEW := Lib.hid hnew
      have d1 : ∀ z, cmpN c x = z → doneB c (M ++ [x]) = (doneB c M || decide (z < 0)) := fun z hz => by rw [doneB_snoc, hz]
      have o1 := fun h => outN_done (c := c) (x := x) (l := M) h
      have o2 := fun h (hx : cmpN c x < 0) => outN_new (c := c) (x := x) (l := M) h hx
      have o3 := fun h (hx : ¬ cmpN c x < 0) => outN_not (c := c) (x := x) (l := M) h hx
      obtain ⟨z, hz⟩ : ∃ z, cmpN c x = z := ⟨_, rfl⟩
      have d2 := d1 z hz
      rw [hz] at hcall HHALL HEQ o2 o3
      have HD2 := Lib.hid d2
      have HO1 := Lib.hid o1
      have HO2 := Lib.hid o2
      have HO3 := Lib.hid o3
      have HCALL := Lib.hid hcall
      obtain ⟨dn, hdn⟩ : ∃ dn, dn = doneB c M := ⟨_, rfl⟩
      rw [← hdn] at HD2 HO1 HO2 HO3 ⊢
      clear hcall hsn hall heqL hX hx hc hnew d1 o1 o2 o3 hz d2 hM hdn
      by_cases hzz : z = 0
      · subst hzz
        have hLl := HEQ.out rfl
        have HLL2 := Lib.hid hLl
        clear hLl
        go_wp2_with fail
        refine (HCALL.out).mono ?_
        rintro e w1 ⟨rfl, hb1⟩
        obtain ⟨_, hb2, _⟩ := HNEW.out _ hb1
        go_wp2
        go_ret
        refine ⟨_, rfl, ?_, hb2⟩
        rw [HLL2.out, ← HN.out]
        exact ownsRow_below HO.out (hb2.mono (Nat.le_refl _))
      · have hzz' : (z == 0) = false := by rw [beq_eq_false_iff_ne]; exact hzz
        have hstep := HHALL.out hzz
        have HSTEP := Lib.hid hstep
        clear hstep
        by_cases hneg : z < 0
        · cases dn with
          | true =>
            have hout := HO1.out rfl
            have hdd : doneB c (M ++ [x]) = true := by rw [HD2.out]; rfl
            have HOUT := Lib.hid hout
            have HDD := Lib.hid hdd
            clear hout hdd
            go_wp2_with fail
            refine (HCALL.out).mono ?_
            rintro e w1 ⟨rfl, hb1⟩
            obtain ⟨q1, q2, q3⟩ := HNEW.out _ hb1
            have HQ1 := Lib.hid q1
            have HQ2 := Lib.hid q2
            clear q1 q2 hb1
            go_wp2_with (at_builtin; refine wpList_append_own _ rfl _ _ 37 rfl w.heap.size 9 i0 (.string ⟨#[]⟩) 1 16 Tryz.underlying37 hi hz0 hz1 hz2 rfl (by decide) _ _ _ rfl (HQ1.out.alloc _) ⟨w1.heap.size, 0, none⟩ 1 1 [.string X] rfl rfl (one_new _ _ _ _ rfl) (one_str _) (by unfold maxLen; omega) (by omega) (by simp; omega) ?_; intro v' w5 hown5 hgr5 _)
            have hB5 : Below w.heap.size w w5 := ((HQ2.out.alloc HQ2.out.size _).grown hgr5 (by simp; omega) fun j e => ownBlock_le HQ1.out j e)
            have HO5 := Lib.hid hown5
            have HB5 := Lib.hid hB5
            clear hown5 hB5 hgr5
            go_roundw
            case rel => exact ⟨k + 1, by go_num, by omega, by rw [HSN.out, HDD.out], Lib.hid (by rw [HSN.out, HOUT.out]; exact own_texts HO5.out HX.out rfl), HB5, HSTEP⟩
            case measure => simp [RowKit.intOf]; omega
          | false =>
            have hout := HO2.out rfl hneg
            have hdd : doneB c (M ++ [x]) = true := by rw [HD2.out, decide_eq_true hneg]; rfl
            have HOUT := Lib.hid hout
            have HDD := Lib.hid hdd
            have hl2 : (outN c M ++ [c]).length ≤ 1002 := by simp; omega
            clear hout hdd
            go_wp2_with fail
            refine (HCALL.out).mono ?_
            rintro e w1 ⟨rfl, hb1⟩
            obtain ⟨q1, q2, q3⟩ := HNEW.out _ hb1
            have HQ1 := Lib.hid q1
            have HQ2 := Lib.hid q2
            clear q1 q2 hb1
            go_wp2_with (first | (at_builtin; refine wpList_append_own _ rfl _ _ 37 rfl w.heap.size 9 i0 (.string ⟨#[]⟩) 1 16 Tryz.underlying37 hi hz0 hz1 hz2 rfl (by decide) _ _ _ rfl (HQ1.out.alloc _) ⟨w1.heap.size, 0, none⟩ 1 1 [.string C] rfl rfl (one_new _ _ _ _ rfl) (one_str _) (by unfold maxLen; omega) (by omega) (by simp; omega) ?_; intro v1 w5 hown5 hgr5 _; have hB5 : Below w.heap.size w w5 := ((HQ2.out.alloc HQ2.out.size _).grown hgr5 (by simp; omega) fun j e => ownBlock_le HQ1.out j e); have hz5 := hB5.size; have HB5 := Lib.hid hB5; have HO5 := Lib.hid (own_texts hown5 HCC.out.symm rfl); clear hB5 hown5 hgr5) | (at_builtin; refine wpList_append_own _ rfl _ _ 37 rfl w.heap.size 9 i0 (.string ⟨#[]⟩) 1 16 Tryz.underlying37 hi hz0 hz1 hz2 rfl (by decide) _ _ _ rfl (HO5.out.alloc _) ⟨w5.heap.size, 0, none⟩ 1 1 [.string X] rfl rfl (one_new _ _ _ _ rfl) (one_str _) (by unfold maxLen; omega) (by omega) (by simp; omega) ?_; intro v2 w6 hown6 hgr6 _))
            have hB6 : Below w.heap.size w w6 := ((HB5.out.alloc HB5.out.size _).grown hgr6 (by simp; omega) fun j e => ownBlock_le HO5.out j e)
            have HO6 := Lib.hid hown6
            have HB6 := Lib.hid hB6
            clear hown6 hB6 hgr6
            go_roundw
            case rel => exact ⟨k + 1, by go_num, by omega, by rw [HSN.out, HDD.out], Lib.hid (by rw [HSN.out, HOUT.out]; exact own_texts HO6.out HX.out rfl), HB6, HSTEP⟩
            case measure => simp [RowKit.intOf]; omega
        · have hpos : 0 ≤ z := by omega
          have hout : outN c (M ++ [x]) = outN c M ++ [x] := by
            cases dn with
            | true => exact HO1.out rfl
            | false => exact HO3.out rfl hneg
          have hdd : doneB c (M ++ [x]) = dn := by rw [HD2.out, decide_eq_false hneg, Bool.or_false]
          have HOUT := Lib.hid hout
          have HDD := Lib.hid hdd
          clear hout hdd
          go_wp2_with fail
          refine (HCALL.out).mono ?_
          rintro e w1 ⟨rfl, hb1⟩
          obtain ⟨q1, q2, q3⟩ := HNEW.out _ hb1
          have HQ1 := Lib.hid q1
          have HQ2 := Lib.hid q2
          clear q1 q2 hb1
          go_wp2_with (at_builtin; refine wpList_append_own _ rfl _ _ 37 rfl w.heap.size 9 i0 (.string ⟨#[]⟩) 1 16 Tryz.underlying37 hi hz0 hz1 hz2 rfl (by decide) _ _ _ rfl (HQ1.out.alloc _) ⟨w1.heap.size, 0, none⟩ 1 1 [.string X] rfl rfl (one_new _ _ _ _ rfl) (one_str _) (by unfold maxLen; omega) (by omega) (by simp; omega) ?_; intro v' w5 hown5 hgr5 _)
          have hB5 : Below w.heap.size w w5 := ((HQ2.out.alloc HQ2.out.size _).grown hgr5 (by simp; omega) fun j e => ownBlock_le HQ1.out j e)
          have HO5 := Lib.hid hown5
          have HB5 := Lib.hid hB5
          clear hown5 hB5 hgr5
          go_roundw
          case rel => exact ⟨k + 1, by go_num, by omega, by rw [HSN.out, HDD.out], Lib.hid (by rw [HSN.out, HOUT.out]; exact own_texts HO5.out HX.out rfl), HB5, HSTEP⟩
          case measure => simp [RowKit.intOf]; omega
    · obtain rfl : k = n := by omega
      have hge : (k : Int) ≤ (k : Int) := Int.le_refl _
      have htk : l.take k = l := by rw [HN.out, List.take_length]
      rw [htk] at HU HNE ⊢
      have hLi : L = insN c l := by
        rw [← HLL.out]
        unfold withN
        rw [if_neg]
        intro h
        obtain ⟨x, hx, hd⟩ := List.any_eq_true.1 h
        exact HNE.out x hx (of_decide_eq_true hd)
      have hol := outN_len c l
      have hbz := HB.out.size
      have hlk : l.length = k := HN.out.symm
      cases hd : doneB c l with
      | true =>
        have hfin : outN c l = L := by unfold outN; rw [hd, if_pos rfl, hLi]
        rw [hfin] at HU
        clear htk hLi hd hfin
        go_wp2
        go_ret
        exact ⟨_, rfl, ownsRow_mono HU.out hbase, HB.out⟩
      | false =>
        have hfin : L = outN c l ++ [c] := by unfold outN; rw [hd, if_neg (by decide), hLi, insN_none hd]
        have HFIN := Lib.hid hfin
        clear htk hLi hd hfin
        go_wp2_with (at_builtin; refine wpList_append_own _ rfl _ _ 37 rfl w.heap.size 9 i0 (.string ⟨#[]⟩) 1 16 Tryz.underlying37 hi hz0 hz1 hz2 rfl (by decide) _ _ _ rfl (HU.out.alloc _) ⟨wr.heap.size, 0, none⟩ 1 1 [.string C] rfl rfl (one_new _ _ _ _ rfl) (one_str _) (by unfold maxLen; omega) (by omega) (by simp; omega) ?_; intro v' w5 hown5 hgr5 _)
        have hB5 : Below w.heap.size w w5 := ((HB.out.alloc HB.out.size _).grown hgr5 (by simp; omega) fun j e => ownBlock_le HU.out j e)
        go_ret
        refine ⟨_, rfl, ?_, hB5⟩
        rw [HFIN.out]
        exact ownsRow_mono (own_texts hown5 HCC.out.symm rfl) hbase

end Go.Proofs.YtdgckdmgplpobaaGreatDoor

/- Plain mathematics of classifications: the order of codes is total, a code more keeps them in order and closed under parents; of no function of the program; no condition. -/
namespace Go.Proofs.YtdgckdmgplpobaaGreatDoor
open Go.RowKit Go.Lib Go.Proofs

theorem cmpL_anti : ∀ (a b : List Int), cmpL a b = - cmpL b a
  | [], [] => rfl
  | [], _ :: _ => rfl
  | _ :: _, [] => rfl
  | x :: xs, y :: ys => by
    have ih := cmpL_anti xs ys
    unfold cmpL
    by_cases h1 : x < y
    · rw [if_pos h1, if_neg (by omega), if_pos h1]
    · by_cases h2 : y < x
      · rw [if_neg h1, if_pos h2, if_pos h2]; rfl
      · rw [if_neg h1, if_neg h2, if_neg h2, if_neg h1]; exact ih

theorem cmpL_zero : ∀ {a b : List Int}, cmpL a b = 0 ↔ a = b
  | [], [] => by simp [cmpL]
  | [], _ :: _ => by simp [cmpL]
  | _ :: _, [] => by simp [cmpL]
  | x :: xs, y :: ys => by
    have ih := cmpL_zero (a := xs) (b := ys)
    unfold cmpL
    by_cases h1 : x < y
    · rw [if_pos h1]; constructor
      · intro h; cases h
      · intro h; injection h with h _; omega
    · by_cases h2 : y < x
      · rw [if_neg h1, if_pos h2]; constructor
        · intro h; cases h
        · intro h; injection h with h _; omega
      · rw [if_neg h1, if_neg h2, ih]
        have : x = y := by omega
        subst this
        simp

theorem cmpL_three : ∀ (a b : List Int), cmpL a b = -1 ∨ cmpL a b = 0 ∨ cmpL a b = 1
  | [], [] => by simp [cmpL]
  | [], _ :: _ => by simp [cmpL]
  | _ :: _, [] => by simp [cmpL]
  | x :: xs, y :: ys => by
    have ih := cmpL_three xs ys
    unfold cmpL
    split
    · exact Or.inl rfl
    · split
      · exact Or.inr (Or.inr rfl)
      · exact ih

theorem cmpL_trans : ∀ {a b c : List Int}, cmpL a b < 0 → cmpL b c < 0 → cmpL a c < 0
  | _, [], [], _, h => absurd h (by decide)
  | _, _ :: _, [], _, h => absurd h (by simp [cmpL])
  | [], _, _ :: _, _, _ => by simp [cmpL]
  | _ :: _, [], _ :: _, h, _ => absurd h (by simp [cmpL])
  | x :: xs, y :: ys, z :: zs, h1, h2 => by
    have ih := cmpL_trans (a := xs) (b := ys) (c := zs)
    unfold cmpL at h1 h2 ⊢
    by_cases a1 : x < y
    · by_cases b1 : y < z
      · rw [if_pos (by omega)]; decide
      · by_cases b2 : z < y
        · rw [if_neg b1, if_pos b2] at h2; exact absurd h2 (by decide)
        · rw [if_pos (by omega)]; decide
    · by_cases a2 : y < x
      · rw [if_neg a1, if_pos a2] at h1; exact absurd h1 (by decide)
      · rw [if_neg a1, if_neg a2] at h1
        by_cases b1 : y < z
        · rw [if_pos (by omega)]; decide
        · by_cases b2 : z < y
          · rw [if_neg b1, if_pos b2] at h2; exact absurd h2 (by decide)
          · rw [if_neg b1, if_neg b2] at h2
            rw [if_neg (by omega), if_neg (by omega)]
            exact ih h1 h2

theorem cmpN_anti (a b : List Nat) : cmpN a b = - cmpN b a := cmpL_anti _ _
theorem cmpN_zero {a b : List Nat} : cmpN a b = 0 ↔ a = b := by
  unfold cmpN
  rw [cmpL_zero]
  exact ⟨asInts_inj, fun h => by rw [h]⟩
theorem cmpN_trans {a b c : List Nat} (h : cmpN a b < 0) (k : cmpN b c < 0) : cmpN a c < 0 := cmpL_trans h k
theorem cmpN_three (a b : List Nat) : cmpN a b = -1 ∨ cmpN a b = 0 ∨ cmpN a b = 1 := cmpL_three _ _
theorem cmpN_total {a b : List Nat} (h : a ≠ b) : cmpN a b < 0 ∨ cmpN b a < 0 := by
  rcases cmpN_three a b with h1 | h1 | h1
  · left; omega
  · exact absurd (cmpN_zero.1 h1) h
  · right; rw [cmpN_anti]; omega

structure TreeOk (l : List (List Nat)) : Prop where
  sorted : l.Pairwise fun a b => cmpN a b < 0
  good : ∀ x ∈ l, GoodN x
  up : ∀ x ∈ l, 2 ≤ x.length → x.dropLast ∈ l

theorem mem_insN {c x : List Nat} : ∀ {l : List (List Nat)}, x ∈ insN c l ↔ x = c ∨ x ∈ l
  | [] => by simp [insN]
  | y :: l => by
    unfold insN
    split
    · simp
    · have ih := mem_insN (c := c) (x := x) (l := l)
      rw [List.mem_cons, ih, List.mem_cons]
      constructor
      · rintro (h | h | h)
        · exact Or.inr (Or.inl h)
        · exact Or.inl h
        · exact Or.inr (Or.inr h)
      · rintro (h | h | h)
        · exact Or.inr (Or.inl h)
        · exact Or.inl h
        · exact Or.inr (Or.inr h)

theorem any_eq {c : List Nat} {l : List (List Nat)} : l.any (fun x => decide (cmpN c x = 0)) = true ↔ c ∈ l := by
  rw [List.any_eq_true]
  constructor
  · rintro ⟨x, hx, h⟩
    rw [cmpN_zero.1 (of_decide_eq_true h)]; exact hx
  · intro h
    exact ⟨c, h, decide_eq_true (cmpN_zero.2 rfl)⟩

theorem mem_withN {c x : List Nat} {l : List (List Nat)} : x ∈ withN c l ↔ x = c ∨ x ∈ l := by
  unfold withN
  by_cases h : l.any (fun x => decide (cmpN c x = 0)) = true
  · rw [if_pos h]
    have hc := any_eq.1 h
    exact ⟨Or.inr, fun h => h.elim (fun h => h ▸ hc) id⟩
  · rw [if_neg h]; exact mem_insN

theorem insN_sorted {c : List Nat} : ∀ {l : List (List Nat)}, l.Pairwise (fun a b => cmpN a b < 0) → c ∉ l → (insN c l).Pairwise fun a b => cmpN a b < 0
  | [], _, _ => by simp [insN]
  | y :: l, h, hn => by
    simp only [List.mem_cons, not_or] at hn
    obtain ⟨h1, h2⟩ := List.pairwise_cons.1 h
    unfold insN
    by_cases hc : cmpN c y < 0
    · rw [if_pos hc]
      refine List.pairwise_cons.2 ⟨fun x hx => ?_, h⟩
      rcases List.mem_cons.1 hx with rfl | hx
      · exact hc
      · exact cmpN_trans hc (h1 x hx)
    · rw [if_neg hc]
      refine List.pairwise_cons.2 ⟨fun x hx => ?_, insN_sorted h2 hn.2⟩
      rcases mem_insN.1 hx with rfl | hx
      · exact (cmpN_total hn.1).resolve_left hc
      · exact h1 x hx

theorem withN_len (c : List Nat) (l : List (List Nat)) : (withN c l).length ≤ l.length + 1 ∧ l.length ≤ (withN c l).length := by
  have : (insN c l).length = l.length + 1 := by
    induction l with
    | nil => rfl
    | cons x l ih => unfold insN; split <;> simp [ih]
  unfold withN
  split <;> omega

theorem TreeOk.put {c : List Nat} {l : List (List Nat)} (h : TreeOk l) (hc : GoodN c) (hp : 2 ≤ c.length → c.dropLast ∈ l) : TreeOk (withN c l) := by
  refine ⟨?_, fun x hx => ?_, fun x hx h2 => ?_⟩
  · unfold withN
    by_cases ha : l.any (fun x => decide (cmpN c x = 0)) = true
    · rw [if_pos ha]; exact h.sorted
    · rw [if_neg ha]
      exact insN_sorted h.sorted fun hm => ha (any_eq.2 hm)
  · rcases mem_withN.1 hx with rfl | hx
    · exact hc
    · exact h.good x hx
  · rcases mem_withN.1 hx with rfl | hx
    · exact mem_withN.2 (Or.inr (hp h2))
    · exact mem_withN.2 (Or.inr (h.up x hx h2))

theorem GoodN.one {n : Nat} (h : 1 ≤ n ∧ n ≤ 99) : GoodN [n] := ⟨by simp, by simp, by simpa using h⟩
theorem GoodN.snoc {ns : List Nat} {n : Nat} (h : GoodN ns) (hl : ns.length ≤ 3) (hn : 1 ≤ n ∧ n ≤ 99) : GoodN (ns ++ [n]) :=
  ⟨by simp, by simp; omega, fun m hm => by
    rcases List.mem_append.1 hm with hm | hm
    · exact h.2.2 m hm
    · rw [List.mem_singleton.1 hm]; exact hn⟩

theorem tree0 : TreeOk [[1], [2]] := by
  refine ⟨by decide, fun x hx => ?_, fun x hx h => ?_⟩
  · simp only [List.mem_cons, List.mem_nil_iff, or_false] at hx
    rcases hx with rfl | rfl <;> exact GoodN.one (by omega)
  · simp only [List.mem_cons, List.mem_nil_iff, or_false] at hx
    rcases hx with rfl | rfl <;> simp at h

end Go.Proofs.YtdgckdmgplpobaaGreatDoor

/- The contract of treasurymake's Pick: one of the numbers of a list; only the tape's place has turned. -/
namespace Go.Proofs.YtdgckdmgplpobaaGreatDoor
open Go.RowKit Go.Lib Go.Proofs

def PickPost (tb : Nat) (l : List Int) (w : World) (e : Ending) (w' : World) : Prop := ∃ x : Int, e = .returned (.int .i64 x) ∧ x ∈ l ∧ TapeAt w' tb ∧ w.grownBy w' (some tb)

set_option maxHeartbeats 1000000 in
theorem Pick_any (tb b cap : Nat) (l : List Int) (w : World) (ht : TapeAt w tb) (hb : tb < b) (hbw : b < w.heap.size) (hl : 0 < l.length) (hl1 : l.length ≤ 1000) (hc : ∀ i, i < l.length → w.cell? ⟨b, i, none⟩ = some (.int .i64 (l.getD i 0))) :
    Calls Tryz.prog 25 #[.pointer (some ⟨tb, 0, none⟩), .slice (some ⟨b, 0, none⟩) l.length cap] w (PickPost tb l w) := by
  obtain ⟨m, hm⟩ : ∃ m, m = l.length := ⟨_, rfl⟩
  have hm0 : 0 < m := by omega
  have hm1 : m ≤ 1000 := by omega
  have HM := Lib.hid hm
  have HC := Lib.hid hc
  have HN := Lib.hid (N_any tb (m : Int) w ht (by omega) (by omega))
  rw [← hm]
  clear hc hm hl hl1 ht
  go_enter Tryz.func25, Tryz.ntmps25
  go_wp2_with fail
  refine (HN.out).mono ?_
  rintro e w' ⟨r, rfl, r0, r1, t1, g1⟩
  obtain ⟨i, rfl⟩ : ∃ i : Nat, r = i := ⟨r.toNat, by omega⟩
  have hi : i < m := by omega
  obtain ⟨x, hx⟩ : ∃ x, x = l.getD i 0 := ⟨_, rfl⟩
  have hcell : w'.cell? ⟨b, i, none⟩ = some (.int .i64 x) := by
    rw [World.cell?_of_block (w := w) (g1.block b hbw (by simp; omega)), hx]
    exact HC.out i (by have := HM.out; omega)
  have HX := Lib.hid hx
  clear hx
  go_wp2
  go_ret
  exact ⟨x, rfl, by rw [HX.out, getD_eq (by have := HM.out; omega)]; exact List.getElem_mem _, t1, g1⟩

theorem Pick_new (tb cap : Nat) (l : List Int) (cs : Array Value) (T : TypeId) (w : World) (hcs : cs.toList = cellsI l) (ht : TapeAt w tb) (hl : 0 < l.length) (hl1 : l.length ≤ 1000) (m : Nat) (hm : m = l.length) :
    Calls Tryz.prog 25 #[.pointer (some ⟨tb, 0, none⟩), .slice (some ⟨w.heap.size, 0, none⟩) m cap] (w.alloc (.cells cs T)) (PickPost tb l (w.alloc (.cells cs T))) := by
  subst hm
  refine Pick_any tb w.heap.size cap l _ (ht.below ((Below.refl _ _).alloc (Nat.le_refl _) _)) ht.lt (by simp) hl hl1 fun i hi => ?_
  have h1 : (w.alloc (.cells cs T)).heap[w.heap.size]? = some (.cells cs T) := heap_alloc_new w _
  have h2 : cs[i]? = some (.int .i64 (l.getD i 0)) := by rw [← Array.getElem?_toList, hcs, cellsI_get l i hi]
  rw [cell_of_row _ _ i cs T (0, 0) h1]
  exact h2

end Go.Proofs.YtdgckdmgplpobaaGreatDoor
