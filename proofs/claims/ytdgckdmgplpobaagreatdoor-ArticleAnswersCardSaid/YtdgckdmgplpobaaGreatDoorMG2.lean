/- Texts of one claim, merged: ClAwake, ArtTake, ArtForms, ArtWord, ArtF, ArtParts. -/
import Derived.Test.YtdgckdmgplpobaaGreatDoorMG1
/- The contract of treasurylaw03.awake: the example of the chapter holds, whatever the world; nothing that was there turns. -/
set_option linter.unusedSimpArgs false
set_option linter.unusedVariables false
namespace Go.Proofs.YtdgckdmgplpobaaGreatDoor
open Go.RowKit Go.Lib Go.Proofs

theorem good1 {a : Nat} (h : 1 ≤ a ∧ a ≤ 99) : GoodN [a] := ⟨by simp, by simp, by simpa using h⟩
theorem good2 {a b : Nat} (h : 1 ≤ a ∧ a ≤ 99) (g : 1 ≤ b ∧ b ≤ 99) : GoodN [a, b] := ⟨by simp, by simp, by intro n hn; simp at hn; rcases hn with rfl | rfl <;> assumption⟩

theorem t1 : (⟨#[49]⟩ : ByteArray) = codeT [1] := by unfold codeT; simp [joinL, txt, dec_one 1 (by omega)]
theorem t3 : (⟨#[51]⟩ : ByteArray) = codeT [3] := by unfold codeT; simp [joinL, txt, dec_one 3 (by omega)]
theorem t39 : (⟨#[51, 46, 57]⟩ : ByteArray) = codeT [3, 9] := by unfold codeT; simp [joinL, txt, dec_one 3 (by omega), dec_one 9 (by omega)]
theorem g1 : GoodN [1] := good1 (by omega)
theorem g3 : GoodN [3] := good1 (by omega)
theorem g39 : GoodN [3, 9] := good2 (by omega) (by omega)
theorem p1 : parentB ⟨#[49]⟩ = ⟨#[]⟩ := by rw [t1, parentB_codeT g1]; rfl
theorem p3 : parentB ⟨#[51]⟩ = ⟨#[]⟩ := by rw [t3, parentB_codeT g3]; rfl
theorem i1 : isCodeB ⟨#[49]⟩ = true := by rw [t1]; exact isCodeB_codeT g1
theorem i3 : isCodeB ⟨#[51]⟩ = true := by rw [t3]; exact isCodeB_codeT g3
theorem i39 : isCodeB ⟨#[51, 46, 57]⟩ = true := by rw [t39]; exact isCodeB_codeT g39
end Go.Proofs.YtdgckdmgplpobaaGreatDoor

/- Contracts of article.take: a word is put into an article as a part of a form; for words of up to 10^6 bytes. -/
namespace Go.Proofs.YtdgckdmgplpobaaGreatDoor
open Go.RowKit Go.Lib Go.Proofs

def ArtAt (W : World) (b : Nat) (a : Art) : Prop := W.heap[b]? = some (.cells a.cells 24 (0, 0))
theorem ArtAt.below {W W' : World} {b : Nat} {a : Art} (h : ArtAt W b a) (hb : Below W.heap.size W W') : ArtAt W' b a := (hb.block b (Array.getElem?_eq_some_iff.1 h).1).trans h
theorem ArtAt.lt {W : World} {b : Nat} {a : Art} (h : ArtAt W b a) : b < W.heap.size := (Array.getElem?_eq_some_iff.1 h).1
theorem art_cell {W : World} {b : Nat} {cs : Array Value} {T : TypeId} (h : W.heap[b]? = some (.cells cs T (0, 0))) (j : Nat) : W.cell? ⟨b, j, none⟩ = cs[j]? := by
  simp [World.cell?, h]
theorem art_free {W : World} {b : Nat} {cs : Array Value} {T : TypeId} (h : W.heap[b]? = some (.cells cs T (0, 0))) (j : Nat) : W.frozen? ⟨b, j, none⟩ = false := by
  simp [World.frozen?, h]
theorem art_set {W : World} {b : Nat} {cs : Array Value} {T : TypeId} (h : W.heap[b]? = some (.cells cs T (0, 0))) (j : Nat) (v : Value) : (W.setCell ⟨b, j, none⟩ v).heap[b]? = some (.cells (cs.setIfInBounds j v) T (0, 0)) := by
  simp [World.setCell, Array.getElem?_modify, h]

def TakePost (w : World) (b : Nat) (r : Art × Bool) (e : Ending) (w' : World) : Prop := e = .returned (.bool r.2) ∧ ArtAt w' b r.1 ∧ w.grownBy w' (some b)

theorem grown_set {w w1 : World} {b : Nat} (h : Below w.heap.size w w1) (j : Nat) (v : Value) : w.grownBy (w1.setCell ⟨b, j, none⟩ v) (some b) :=
  grownBy_trans (grownBy_below h) ⟨rfl, rfl, rfl, by rw [World.size_setCell]; exact Nat.le_refl _, fun k _ hne => Below.heap_setCell _ _ _ _ (fun e => hne (by rw [e]))⟩

set_option maxHeartbeats 1000000 in
theorem arisCode_any (s : ByteArray) (w : World) (hL : Lay w) (hs : s.size ≤ 1000000) : Calls Tryz.prog 81 #[.string s] w fun e w' => e = .returned (.bool (isCodeB s)) ∧ Below w.heap.size w w' := by
  have HP := Lib.hid (clParts_any s w hL hs)
  unfold isCodeB
  obtain ⟨ns, hns⟩ : ∃ ns, ns = partsN s := ⟨_, rfl⟩
  rw [← hns] at HP ⊢
  clear hns hL
  by_cases hn : ns = []
  · subst hn
    rw [decide_eq_false (by simp)]
    go_enter Tryz.func81, Tryz.ntmps81
    go_wp2_with fail
    refine (HP.out).mono ?_
    rintro e w1 ⟨v, rfl, ho, hb⟩
    obtain ⟨ao, cap, rfl, _, _⟩ := owns_gen ho
    clear ho
    go_wp2
    go_ret
    exact ⟨by simp, hb⟩
  · rw [decide_eq_true hn]
    have hl : (0 : Int) < (ns.length : Int) := by have := List.length_pos_iff.2 hn; omega
    have hl2 : 0 < ns.length := by omega
    go_enter Tryz.func81, Tryz.ntmps81
    go_wp2_with fail
    refine (HP.out).mono ?_
    rintro e w1 ⟨v, rfl, ho, hb⟩
    obtain ⟨ao, cap, rfl, _, _⟩ := owns_gen ho
    clear ho
    go_wp2
    go_ret
    exact ⟨by first | rfl | (simp; done) | simp [hn], hb⟩

theorem one_fault (s : ByteArray) : (faultOf [((⟨#[49]⟩ : ByteArray), s)]).2 = if nameB s = true then 0 else 4 := by
  have hc : isCodeB ⟨#[49]⟩ = true := i1
  have hp : parentB ⟨#[49]⟩ = ⟨#[]⟩ := p1
  unfold faultOf headFault
  rw [if_neg (by simp)]
  cases hn : nameB s <;> simp [List.range_succ, List.find?, hc, hn, hasParentB, hp, codeAt]

set_option maxHeartbeats 1000000 in
theorem arisName_any (s : ByteArray) (w : World) (hL : Lay w) (hs : s.size ≤ 1000000) : Calls Tryz.prog 82 #[.string s] w fun e w' => e = .returned (.bool (nameB s)) ∧ Below w.heap.size w w' := by
  have hrow : RowG (w.alloc (.cells #[.string ⟨#[49]⟩, .string s] 53)) (.slice (some ⟨w.heap.size, 0, none⟩) 1 1) [((⟨#[49]⟩ : ByteArray), s)].length 2 (cellsH [((⟨#[49]⟩ : ByteArray), s)]) :=
    RowG.owns (World.ownsRow_lit (base := w.heap.size) (size := 2) (e := 53) w _ 1 (Nat.le_refl _) (by decide) rfl)
  have hv := clValid_any [((⟨#[49]⟩ : ByteArray), s)] _ _ (hL.below (below_alloc w _) (Nat.le_refl _)) hrow (by simp) (fun h hh => by simp at hh; subst hh; exact ⟨show 1 ≤ 1000000 by decide, hs⟩)
  rw [one_fault] at hv
  have HV := Lib.hid hv
  clear hv hrow hL
  cases hn : nameB s with
  | true =>
    rw [hn, if_pos rfl] at HV
    clear hn
    go_enter Tryz.func82, Tryz.ntmps82
    go_wp2_with fail
    refine (HV.out).mono ?_
    rintro e w1 ⟨rfl, hb⟩
    go_wp2
    go_ret
    exact ⟨rfl, (below_alloc _ _).trans (hb.mono (below_alloc _ _).size)⟩
  | false =>
    rw [hn, if_neg (by decide)] at HV
    clear hn
    go_enter Tryz.func82, Tryz.ntmps82
    go_wp2_with fail
    refine (HV.out).mono ?_
    rintro e w1 ⟨rfl, hb⟩
    go_wp2
    go_ret
    exact ⟨rfl, (below_alloc _ _).trans (hb.mono (below_alloc _ _).size)⟩

open Classical in
theorem parse_is (s : ByteArray) : ∃ p q : Int, ParseIs s p q ∧ dayI' s = p ∧ inDay s = (decide (q = 0) && decide (p ≤ 35990)) := by
  by_cases h : ∃ d : Nat, d ≤ 36000 ∧ dayText d = s
  · obtain ⟨d, hd, hs⟩ := h
    have hx : ∃ d : Nat, d ≤ 36000 ∧ dayText d = s := ⟨d, hd, hs⟩
    have hc : Classical.choose hx = d := dayText_inj (Classical.choose_spec hx).1 hd ((Classical.choose_spec hx).2.trans hs.symm)
    refine ⟨d, 0, Or.inl ⟨d, hd, hs, rfl, rfl⟩, by unfold dayI'; rw [dif_pos hx, hc], ?_⟩
    unfold inDay
    rw [decide_eq_true (rfl : (0 : Int) = 0), Bool.true_and, decide_eq_decide]
    constructor
    · rintro ⟨d', h1, h2⟩
      have := dayText_inj (by omega) hd (h2.trans hs.symm)
      omega
    · intro h; exact ⟨d, by omega, hs⟩
  · refine ⟨0, 4, Or.inr ⟨fun d hd e => h ⟨d, hd, e⟩, rfl, rfl⟩, by unfold dayI'; rw [dif_neg h], ?_⟩
    unfold inDay
    rw [decide_eq_false (by decide : ¬ (4 : Int) = 0), Bool.false_and, decide_eq_false]
    rintro ⟨d, h1, h2⟩
    exact h ⟨d, by omega, h2⟩

set_option maxHeartbeats 1000000 in
theorem readDay_any (s : ByteArray) (w : World) (hL : Lay w) (hs : s.size ≤ 1000000) : Calls Tryz.prog 85 #[.string s] w (Two w (dayI' s) (inDay s)) := by
  obtain ⟨p, q, hpq, h1, h2⟩ := parse_is s
  have HP := Lib.hid (cParse_any s p q hpq w hL hs)
  rw [h1, h2]
  clear h1 h2 hpq hL
  by_cases hq : q = 0
  · subst hq
    rw [decide_eq_true rfl, Bool.true_and]
    by_cases h3 : p ≤ 35990
    · rw [decide_eq_true h3]
      have d3 : decide (p ≤ 35990) = true := decide_eq_true h3
      go_enter Tryz.func85, Tryz.ntmps85
      go_wp2_with fail
      refine (HP.out).mono ?_
      rintro e w1 ⟨rfl, hb⟩
      go_wp2
      go_ret2
      exact ⟨rfl, hb⟩
    · rw [decide_eq_false h3]
      have d3 : decide (p ≤ 35990) = false := decide_eq_false h3
      go_enter Tryz.func85, Tryz.ntmps85
      go_wp2_with fail
      refine (HP.out).mono ?_
      rintro e w1 ⟨rfl, hb⟩
      go_wp2
      go_ret2
      exact ⟨rfl, hb⟩
  · rw [decide_eq_false hq, Bool.false_and]
    have d3 : (q == 0) = false := by rw [beq_eq_false_iff_ne]; exact hq
    go_enter Tryz.func85, Tryz.ntmps85
    go_wp2_with fail
    refine (HP.out).mono ?_
    rintro e w1 ⟨rfl, hb⟩
    go_wp2
    go_ret2
    exact ⟨rfl, hb⟩

set_option maxRecDepth 100000 in
set_option maxHeartbeats 1000000 in
theorem take_code (kd : Int) (cd ot nm : ByteArray) (yr am pc nu dy ls wh : Int) (p x : ByteArray) (b : Nat) (w : World) (hL : Lay w) (hs : x.size ≤ 1000000) (ha : ArtAt w b ⟨kd, cd, ot, nm, yr, am, pc, nu, dy, ls, wh⟩) (e0 : (p.toList == [67, 79, 68, 69]) = true) :
    Calls Tryz.prog 58 #[.pointer (some ⟨b, 0, none⟩), .string p, .string x] w (TakePost w b (takeOf ⟨kd, cd, ot, nm, yr, am, pc, nu, dy, ls, wh⟩ .code x)) := by
  have HC := Lib.hid (arisCode_any x w hL hs)
  have hT : takeOf ⟨kd, cd, ot, nm, yr, am, pc, nu, dy, ls, wh⟩ .code x = (⟨kd, x, ot, nm, yr, am, pc, nu, dy, ls, wh⟩, isCodeB x) := rfl
  rw [hT]
  have HA := Lib.hid ha
  obtain ⟨r, hr⟩ : ∃ r, r = isCodeB x := ⟨_, rfl⟩
  rw [← hr] at HC ⊢
  clear hr hT hL ha hs
  go_enter Tryz.func58, Tryz.ntmps58
  go_wp2_with fail
  refine (HC.out).mono ?_
  rintro e w1 ⟨rfl, hb⟩
  have hA1 := HA.out.below hb
  have hc := art_cell hA1 1
  have hf := art_free hA1 1
  simp only [Art.cells] at hc
  have HA1 := Lib.hid hA1
  have HB := Lib.hid hb
  clear hA1 hb
  go_wp2
  go_ret
  exact ⟨rfl, art_set HA1.out 1 _, grown_set HB.out _ _⟩

set_option maxRecDepth 100000 in
set_option maxHeartbeats 1000000 in
theorem take_other (kd : Int) (cd ot nm : ByteArray) (yr am pc nu dy ls wh : Int) (p x : ByteArray) (b : Nat) (w : World) (hL : Lay w) (hs : x.size ≤ 1000000) (ha : ArtAt w b ⟨kd, cd, ot, nm, yr, am, pc, nu, dy, ls, wh⟩) (e0 : (p.toList == [67, 79, 68, 69]) = false) (e1 : (p.toList == [79, 84, 72, 69, 82]) = true) :
    Calls Tryz.prog 58 #[.pointer (some ⟨b, 0, none⟩), .string p, .string x] w (TakePost w b (takeOf ⟨kd, cd, ot, nm, yr, am, pc, nu, dy, ls, wh⟩ .other x)) := by
  have HC := Lib.hid (arisCode_any x w hL hs)
  have hT : takeOf ⟨kd, cd, ot, nm, yr, am, pc, nu, dy, ls, wh⟩ .other x = (⟨kd, cd, x, nm, yr, am, pc, nu, dy, ls, wh⟩, isCodeB x) := rfl
  rw [hT]
  have HA := Lib.hid ha
  obtain ⟨r, hr⟩ : ∃ r, r = isCodeB x := ⟨_, rfl⟩
  rw [← hr] at HC ⊢
  clear hr hT hL ha hs
  go_enter Tryz.func58, Tryz.ntmps58
  go_wp2_with fail
  refine (HC.out).mono ?_
  rintro e w1 ⟨rfl, hb⟩
  have hA1 := HA.out.below hb
  have hc := art_cell hA1 2
  have hf := art_free hA1 2
  simp only [Art.cells] at hc
  have HA1 := Lib.hid hA1
  have HB := Lib.hid hb
  clear hA1 hb
  go_wp2
  go_ret
  exact ⟨rfl, art_set HA1.out 2 _, grown_set HB.out _ _⟩

set_option maxRecDepth 100000 in
set_option maxHeartbeats 1000000 in
theorem take_name (kd : Int) (cd ot nm : ByteArray) (yr am pc nu dy ls wh : Int) (p x : ByteArray) (b : Nat) (w : World) (hL : Lay w) (hs : x.size ≤ 1000000) (ha : ArtAt w b ⟨kd, cd, ot, nm, yr, am, pc, nu, dy, ls, wh⟩) (e0 : (p.toList == [67, 79, 68, 69]) = false) (e1 : (p.toList == [79, 84, 72, 69, 82]) = false) (e2 : (p.toList == [78, 65, 77, 69]) = true) :
    Calls Tryz.prog 58 #[.pointer (some ⟨b, 0, none⟩), .string p, .string x] w (TakePost w b (takeOf ⟨kd, cd, ot, nm, yr, am, pc, nu, dy, ls, wh⟩ .name x)) := by
  have HC := Lib.hid (arisName_any x w hL hs)
  have hT : takeOf ⟨kd, cd, ot, nm, yr, am, pc, nu, dy, ls, wh⟩ .name x = (⟨kd, cd, ot, x, yr, am, pc, nu, dy, ls, wh⟩, nameB x) := rfl
  rw [hT]
  have HA := Lib.hid ha
  obtain ⟨r, hr⟩ : ∃ r, r = nameB x := ⟨_, rfl⟩
  rw [← hr] at HC ⊢
  clear hr hT hL ha hs
  go_enter Tryz.func58, Tryz.ntmps58
  go_wp2_with fail
  refine (HC.out).mono ?_
  rintro e w1 ⟨rfl, hb⟩
  have hA1 := HA.out.below hb
  have hc := art_cell hA1 3
  have hf := art_free hA1 3
  simp only [Art.cells] at hc
  have HA1 := Lib.hid hA1
  have HB := Lib.hid hb
  clear hA1 hb
  go_wp2
  go_ret
  exact ⟨rfl, art_set HA1.out 3 _, grown_set HB.out _ _⟩

set_option maxRecDepth 100000 in
set_option maxHeartbeats 1000000 in
theorem take_year (kd : Int) (cd ot nm : ByteArray) (yr am pc nu dy ls wh : Int) (p x : ByteArray) (b : Nat) (w : World) (hL : Lay w) (hs : x.size ≤ 1000000) (ha : ArtAt w b ⟨kd, cd, ot, nm, yr, am, pc, nu, dy, ls, wh⟩) (e0 : (p.toList == [67, 79, 68, 69]) = false) (e1 : (p.toList == [79, 84, 72, 69, 82]) = false) (e2 : (p.toList == [78, 65, 77, 69]) = false) (e3 : (p.toList == [89, 69, 65, 82]) = true) :
    Calls Tryz.prog 58 #[.pointer (some ⟨b, 0, none⟩), .string p, .string x] w (TakePost w b (takeOf ⟨kd, cd, ot, nm, yr, am, pc, nu, dy, ls, wh⟩ .year x)) := by
  have HC := Lib.hid (readNumber_any x 0 99 w hL hs)
  have hT : takeOf ⟨kd, cd, ot, nm, yr, am, pc, nu, dy, ls, wh⟩ .year x = (⟨kd, cd, ot, nm, (numI x), am, pc, nu, dy, ls, wh⟩, inN x 0 99) := rfl
  rw [hT]
  have HA := Lib.hid ha
  generalize inN x 0 99 = r at *
  generalize numI x = n at *
  clear hT hL ha hs
  go_enter Tryz.func58, Tryz.ntmps58
  go_wp2_with fail
  refine (HC.out).mono ?_
  rintro e w1 ⟨rfl, hb⟩
  have hA1 := HA.out.below hb
  have hc := art_cell hA1 4
  have hf := art_free hA1 4
  simp only [Art.cells] at hc
  have HA1 := Lib.hid hA1
  have HB := Lib.hid hb
  clear hA1 hb
  go_wp2
  go_ret
  exact ⟨rfl, art_set HA1.out 4 _, grown_set HB.out _ _⟩

set_option maxRecDepth 100000 in
set_option maxHeartbeats 1000000 in
theorem take_span (kd : Int) (cd ot nm : ByteArray) (yr am pc nu dy ls wh : Int) (p x : ByteArray) (b : Nat) (w : World) (hL : Lay w) (hs : x.size ≤ 1000000) (ha : ArtAt w b ⟨kd, cd, ot, nm, yr, am, pc, nu, dy, ls, wh⟩) (e0 : (p.toList == [67, 79, 68, 69]) = false) (e1 : (p.toList == [79, 84, 72, 69, 82]) = false) (e2 : (p.toList == [78, 65, 77, 69]) = false) (e3 : (p.toList == [89, 69, 65, 82]) = false) (e4 : (p.toList == [83, 80, 65, 78]) = true) :
    Calls Tryz.prog 58 #[.pointer (some ⟨b, 0, none⟩), .string p, .string x] w (TakePost w b (takeOf ⟨kd, cd, ot, nm, yr, am, pc, nu, dy, ls, wh⟩ .span x)) := by
  have HC := Lib.hid (readNumberOr_any x 99 allT w hL hs)
  have hT : takeOf ⟨kd, cd, ot, nm, yr, am, pc, nu, dy, ls, wh⟩ .span x = (⟨kd, cd, ot, nm, (orI x allT), am, pc, nu, dy, ls, wh⟩, inOr x 99 allT) := rfl
  rw [hT]
  unfold allT at *
  have HA := Lib.hid ha
  generalize inOr x 99 ⟨#[97, 108, 108]⟩ = r at *
  generalize orI x ⟨#[97, 108, 108]⟩ = n at *
  clear hT hL ha hs
  go_enter Tryz.func58, Tryz.ntmps58
  go_wp2_with fail
  refine (HC.out).mono ?_
  rintro e w1 ⟨rfl, hb⟩
  have hA1 := HA.out.below hb
  have hc := art_cell hA1 4
  have hf := art_free hA1 4
  simp only [Art.cells] at hc
  have HA1 := Lib.hid hA1
  have HB := Lib.hid hb
  clear hA1 hb
  go_wp2
  go_ret
  exact ⟨rfl, art_set HA1.out 4 _, grown_set HB.out _ _⟩

set_option maxRecDepth 100000 in
set_option maxHeartbeats 1000000 in
theorem take_amount (kd : Int) (cd ot nm : ByteArray) (yr am pc nu dy ls wh : Int) (p x : ByteArray) (b : Nat) (w : World) (hL : Lay w) (hs : x.size ≤ 1000000) (ha : ArtAt w b ⟨kd, cd, ot, nm, yr, am, pc, nu, dy, ls, wh⟩) (e0 : (p.toList == [67, 79, 68, 69]) = false) (e1 : (p.toList == [79, 84, 72, 69, 82]) = false) (e2 : (p.toList == [78, 65, 77, 69]) = false) (e3 : (p.toList == [89, 69, 65, 82]) = false) (e4 : (p.toList == [83, 80, 65, 78]) = false) (e5 : (p.toList == [65, 77, 79, 85, 78, 84]) = true) :
    Calls Tryz.prog 58 #[.pointer (some ⟨b, 0, none⟩), .string p, .string x] w (TakePost w b (takeOf ⟨kd, cd, ot, nm, yr, am, pc, nu, dy, ls, wh⟩ .amount x)) := by
  have HC := Lib.hid (readNumber_any x 0 1000000000000 w hL hs)
  have hT : takeOf ⟨kd, cd, ot, nm, yr, am, pc, nu, dy, ls, wh⟩ .amount x = (⟨kd, cd, ot, nm, yr, (numI x), pc, nu, dy, ls, wh⟩, inN x 0 1000000000000) := rfl
  rw [hT]
  have HA := Lib.hid ha
  generalize inN x 0 1000000000000 = r at *
  generalize numI x = n at *
  clear hT hL ha hs
  go_enter Tryz.func58, Tryz.ntmps58
  go_wp2_with fail
  refine (HC.out).mono ?_
  rintro e w1 ⟨rfl, hb⟩
  have hA1 := HA.out.below hb
  have hc := art_cell hA1 5
  have hf := art_free hA1 5
  simp only [Art.cells] at hc
  have HA1 := Lib.hid hA1
  have HB := Lib.hid hb
  clear hA1 hb
  go_wp2
  go_ret
  exact ⟨rfl, art_set HA1.out 5 _, grown_set HB.out _ _⟩

set_option maxRecDepth 100000 in
set_option maxHeartbeats 1000000 in
theorem take_limit (kd : Int) (cd ot nm : ByteArray) (yr am pc nu dy ls wh : Int) (p x : ByteArray) (b : Nat) (w : World) (hL : Lay w) (hs : x.size ≤ 1000000) (ha : ArtAt w b ⟨kd, cd, ot, nm, yr, am, pc, nu, dy, ls, wh⟩) (e0 : (p.toList == [67, 79, 68, 69]) = false) (e1 : (p.toList == [79, 84, 72, 69, 82]) = false) (e2 : (p.toList == [78, 65, 77, 69]) = false) (e3 : (p.toList == [89, 69, 65, 82]) = false) (e4 : (p.toList == [83, 80, 65, 78]) = false) (e5 : (p.toList == [65, 77, 79, 85, 78, 84]) = false) (e6 : (p.toList == [76, 73, 77, 73, 84]) = true) :
    Calls Tryz.prog 58 #[.pointer (some ⟨b, 0, none⟩), .string p, .string x] w (TakePost w b (takeOf ⟨kd, cd, ot, nm, yr, am, pc, nu, dy, ls, wh⟩ .limit x)) := by
  have HC := Lib.hid (readNumberOr_any x 1000000000000 noneT w hL hs)
  have hT : takeOf ⟨kd, cd, ot, nm, yr, am, pc, nu, dy, ls, wh⟩ .limit x = (⟨kd, cd, ot, nm, yr, (orI x noneT), pc, nu, dy, ls, wh⟩, inOr x 1000000000000 noneT) := rfl
  rw [hT]
  unfold noneT at *
  have HA := Lib.hid ha
  generalize inOr x 1000000000000 ⟨#[110, 111, 110, 101]⟩ = r at *
  generalize orI x ⟨#[110, 111, 110, 101]⟩ = n at *
  clear hT hL ha hs
  go_enter Tryz.func58, Tryz.ntmps58
  go_wp2_with fail
  refine (HC.out).mono ?_
  rintro e w1 ⟨rfl, hb⟩
  have hA1 := HA.out.below hb
  have hc := art_cell hA1 5
  have hf := art_free hA1 5
  simp only [Art.cells] at hc
  have HA1 := Lib.hid hA1
  have HB := Lib.hid hb
  clear hA1 hb
  go_wp2
  go_ret
  exact ⟨rfl, art_set HA1.out 5 _, grown_set HB.out _ _⟩

set_option maxRecDepth 100000 in
set_option maxHeartbeats 1000000 in
theorem take_least (kd : Int) (cd ot nm : ByteArray) (yr am pc nu dy ls wh : Int) (p x : ByteArray) (b : Nat) (w : World) (hL : Lay w) (hs : x.size ≤ 1000000) (ha : ArtAt w b ⟨kd, cd, ot, nm, yr, am, pc, nu, dy, ls, wh⟩) (e0 : (p.toList == [67, 79, 68, 69]) = false) (e1 : (p.toList == [79, 84, 72, 69, 82]) = false) (e2 : (p.toList == [78, 65, 77, 69]) = false) (e3 : (p.toList == [89, 69, 65, 82]) = false) (e4 : (p.toList == [83, 80, 65, 78]) = false) (e5 : (p.toList == [65, 77, 79, 85, 78, 84]) = false) (e6 : (p.toList == [76, 73, 77, 73, 84]) = false) (e7 : (p.toList == [76, 69, 65, 83, 84]) = true) :
    Calls Tryz.prog 58 #[.pointer (some ⟨b, 0, none⟩), .string p, .string x] w (TakePost w b (takeOf ⟨kd, cd, ot, nm, yr, am, pc, nu, dy, ls, wh⟩ .least x)) := by
  have HC := Lib.hid (readNumber_any x 0 1000000000000 w hL hs)
  have hT : takeOf ⟨kd, cd, ot, nm, yr, am, pc, nu, dy, ls, wh⟩ .least x = (⟨kd, cd, ot, nm, yr, am, pc, nu, dy, (numI x), wh⟩, inN x 0 1000000000000) := rfl
  rw [hT]
  have HA := Lib.hid ha
  generalize inN x 0 1000000000000 = r at *
  generalize numI x = n at *
  clear hT hL ha hs
  go_enter Tryz.func58, Tryz.ntmps58
  go_wp2_with fail
  refine (HC.out).mono ?_
  rintro e w1 ⟨rfl, hb⟩
  have hA1 := HA.out.below hb
  have hc := art_cell hA1 9
  have hf := art_free hA1 9
  simp only [Art.cells] at hc
  have HA1 := Lib.hid hA1
  have HB := Lib.hid hb
  clear hA1 hb
  go_wp2
  go_ret
  exact ⟨rfl, art_set HA1.out 9 _, grown_set HB.out _ _⟩

set_option maxRecDepth 100000 in
set_option maxHeartbeats 1000000 in
theorem take_percent (kd : Int) (cd ot nm : ByteArray) (yr am pc nu dy ls wh : Int) (p x : ByteArray) (b : Nat) (w : World) (hL : Lay w) (hs : x.size ≤ 1000000) (ha : ArtAt w b ⟨kd, cd, ot, nm, yr, am, pc, nu, dy, ls, wh⟩) (e0 : (p.toList == [67, 79, 68, 69]) = false) (e1 : (p.toList == [79, 84, 72, 69, 82]) = false) (e2 : (p.toList == [78, 65, 77, 69]) = false) (e3 : (p.toList == [89, 69, 65, 82]) = false) (e4 : (p.toList == [83, 80, 65, 78]) = false) (e5 : (p.toList == [65, 77, 79, 85, 78, 84]) = false) (e6 : (p.toList == [76, 73, 77, 73, 84]) = false) (e7 : (p.toList == [76, 69, 65, 83, 84]) = false) (e8 : (p.toList == [80, 69, 82, 67, 69, 78, 84]) = true) :
    Calls Tryz.prog 58 #[.pointer (some ⟨b, 0, none⟩), .string p, .string x] w (TakePost w b (takeOf ⟨kd, cd, ot, nm, yr, am, pc, nu, dy, ls, wh⟩ .percent x)) := by
  have HC := Lib.hid (readNumber_any x 0 100 w hL hs)
  have hT : takeOf ⟨kd, cd, ot, nm, yr, am, pc, nu, dy, ls, wh⟩ .percent x = (⟨kd, cd, ot, nm, yr, am, (numI x), nu, dy, ls, wh⟩, inN x 0 100) := rfl
  rw [hT]
  have HA := Lib.hid ha
  generalize inN x 0 100 = r at *
  generalize numI x = n at *
  clear hT hL ha hs
  go_enter Tryz.func58, Tryz.ntmps58
  go_wp2_with fail
  refine (HC.out).mono ?_
  rintro e w1 ⟨rfl, hb⟩
  have hA1 := HA.out.below hb
  have hc := art_cell hA1 6
  have hf := art_free hA1 6
  simp only [Art.cells] at hc
  have HA1 := Lib.hid hA1
  have HB := Lib.hid hb
  clear hA1 hb
  go_wp2
  go_ret
  exact ⟨rfl, art_set HA1.out 6 _, grown_set HB.out _ _⟩

set_option maxRecDepth 100000 in
set_option maxHeartbeats 1000000 in
theorem take_number (kd : Int) (cd ot nm : ByteArray) (yr am pc nu dy ls wh : Int) (p x : ByteArray) (b : Nat) (w : World) (hL : Lay w) (hs : x.size ≤ 1000000) (ha : ArtAt w b ⟨kd, cd, ot, nm, yr, am, pc, nu, dy, ls, wh⟩) (e0 : (p.toList == [67, 79, 68, 69]) = false) (e1 : (p.toList == [79, 84, 72, 69, 82]) = false) (e2 : (p.toList == [78, 65, 77, 69]) = false) (e3 : (p.toList == [89, 69, 65, 82]) = false) (e4 : (p.toList == [83, 80, 65, 78]) = false) (e5 : (p.toList == [65, 77, 79, 85, 78, 84]) = false) (e6 : (p.toList == [76, 73, 77, 73, 84]) = false) (e7 : (p.toList == [76, 69, 65, 83, 84]) = false) (e8 : (p.toList == [80, 69, 82, 67, 69, 78, 84]) = false) (e9 : (p.toList == [78, 85, 77, 66, 69, 82]) = true) :
    Calls Tryz.prog 58 #[.pointer (some ⟨b, 0, none⟩), .string p, .string x] w (TakePost w b (takeOf ⟨kd, cd, ot, nm, yr, am, pc, nu, dy, ls, wh⟩ .number x)) := by
  have HC := Lib.hid (readNumber_any x 1 1000000 w hL hs)
  have hT : takeOf ⟨kd, cd, ot, nm, yr, am, pc, nu, dy, ls, wh⟩ .number x = (⟨kd, cd, ot, nm, yr, am, pc, (numI x), dy, ls, wh⟩, inN x 1 1000000) := rfl
  rw [hT]
  have HA := Lib.hid ha
  generalize inN x 1 1000000 = r at *
  generalize numI x = n at *
  clear hT hL ha hs
  go_enter Tryz.func58, Tryz.ntmps58
  go_wp2_with fail
  refine (HC.out).mono ?_
  rintro e w1 ⟨rfl, hb⟩
  have hA1 := HA.out.below hb
  have hc := art_cell hA1 7
  have hf := art_free hA1 7
  simp only [Art.cells] at hc
  have HA1 := Lib.hid hA1
  have HB := Lib.hid hb
  clear hA1 hb
  go_wp2
  go_ret
  exact ⟨rfl, art_set HA1.out 7 _, grown_set HB.out _ _⟩

set_option maxRecDepth 100000 in
set_option maxHeartbeats 1000000 in
theorem take_count (kd : Int) (cd ot nm : ByteArray) (yr am pc nu dy ls wh : Int) (p x : ByteArray) (b : Nat) (w : World) (hL : Lay w) (hs : x.size ≤ 1000000) (ha : ArtAt w b ⟨kd, cd, ot, nm, yr, am, pc, nu, dy, ls, wh⟩) (e0 : (p.toList == [67, 79, 68, 69]) = false) (e1 : (p.toList == [79, 84, 72, 69, 82]) = false) (e2 : (p.toList == [78, 65, 77, 69]) = false) (e3 : (p.toList == [89, 69, 65, 82]) = false) (e4 : (p.toList == [83, 80, 65, 78]) = false) (e5 : (p.toList == [65, 77, 79, 85, 78, 84]) = false) (e6 : (p.toList == [76, 73, 77, 73, 84]) = false) (e7 : (p.toList == [76, 69, 65, 83, 84]) = false) (e8 : (p.toList == [80, 69, 82, 67, 69, 78, 84]) = false) (e9 : (p.toList == [78, 85, 77, 66, 69, 82]) = false) (e10 : (p.toList == [67, 79, 85, 78, 84]) = true) :
    Calls Tryz.prog 58 #[.pointer (some ⟨b, 0, none⟩), .string p, .string x] w (TakePost w b (takeOf ⟨kd, cd, ot, nm, yr, am, pc, nu, dy, ls, wh⟩ .count x)) := by
  have HC := Lib.hid (readNumber_any x 1 4 w hL hs)
  have hT : takeOf ⟨kd, cd, ot, nm, yr, am, pc, nu, dy, ls, wh⟩ .count x = (⟨kd, cd, ot, nm, yr, am, pc, (numI x), dy, ls, wh⟩, inN x 1 4) := rfl
  rw [hT]
  have HA := Lib.hid ha
  generalize inN x 1 4 = r at *
  generalize numI x = n at *
  clear hT hL ha hs
  go_enter Tryz.func58, Tryz.ntmps58
  go_wp2_with fail
  refine (HC.out).mono ?_
  rintro e w1 ⟨rfl, hb⟩
  have hA1 := HA.out.below hb
  have hc := art_cell hA1 7
  have hf := art_free hA1 7
  simp only [Art.cells] at hc
  have HA1 := Lib.hid hA1
  have HB := Lib.hid hb
  clear hA1 hb
  go_wp2
  go_ret
  exact ⟨rfl, art_set HA1.out 7 _, grown_set HB.out _ _⟩

set_option maxRecDepth 100000 in
set_option maxHeartbeats 1000000 in
theorem take_day (kd : Int) (cd ot nm : ByteArray) (yr am pc nu dy ls wh : Int) (p x : ByteArray) (b : Nat) (w : World) (hL : Lay w) (hs : x.size ≤ 1000000) (ha : ArtAt w b ⟨kd, cd, ot, nm, yr, am, pc, nu, dy, ls, wh⟩) (e0 : (p.toList == [67, 79, 68, 69]) = false) (e1 : (p.toList == [79, 84, 72, 69, 82]) = false) (e2 : (p.toList == [78, 65, 77, 69]) = false) (e3 : (p.toList == [89, 69, 65, 82]) = false) (e4 : (p.toList == [83, 80, 65, 78]) = false) (e5 : (p.toList == [65, 77, 79, 85, 78, 84]) = false) (e6 : (p.toList == [76, 73, 77, 73, 84]) = false) (e7 : (p.toList == [76, 69, 65, 83, 84]) = false) (e8 : (p.toList == [80, 69, 82, 67, 69, 78, 84]) = false) (e9 : (p.toList == [78, 85, 77, 66, 69, 82]) = false) (e10 : (p.toList == [67, 79, 85, 78, 84]) = false) (e11 : (p.toList == [68, 65, 89]) = true) :
    Calls Tryz.prog 58 #[.pointer (some ⟨b, 0, none⟩), .string p, .string x] w (TakePost w b (takeOf ⟨kd, cd, ot, nm, yr, am, pc, nu, dy, ls, wh⟩ .day x)) := by
  have HC := Lib.hid (readDay_any x w hL hs)
  have hT : takeOf ⟨kd, cd, ot, nm, yr, am, pc, nu, dy, ls, wh⟩ .day x = (⟨kd, cd, ot, nm, yr, am, pc, nu, (dayI' x), ls, wh⟩, inDay x) := rfl
  rw [hT]
  have HA := Lib.hid ha
  generalize inDay x = r at *
  generalize dayI' x = n at *
  clear hT hL ha hs
  go_enter Tryz.func58, Tryz.ntmps58
  go_wp2_with fail
  refine (HC.out).mono ?_
  rintro e w1 ⟨rfl, hb⟩
  have hA1 := HA.out.below hb
  have hc := art_cell hA1 8
  have hf := art_free hA1 8
  simp only [Art.cells] at hc
  have HA1 := Lib.hid hA1
  have HB := Lib.hid hb
  clear hA1 hb
  go_wp2
  go_ret
  exact ⟨rfl, art_set HA1.out 8 _, grown_set HB.out _ _⟩

set_option maxRecDepth 100000 in
set_option maxHeartbeats 1000000 in
theorem take_lit (a : Art) (p x : ByteArray) (b : Nat) (w : World) (ha : ArtAt w b a) (e0 : (p.toList == [67, 79, 68, 69]) = false) (e1 : (p.toList == [79, 84, 72, 69, 82]) = false) (e2 : (p.toList == [78, 65, 77, 69]) = false) (e3 : (p.toList == [89, 69, 65, 82]) = false) (e4 : (p.toList == [83, 80, 65, 78]) = false) (e5 : (p.toList == [65, 77, 79, 85, 78, 84]) = false) (e6 : (p.toList == [76, 73, 77, 73, 84]) = false) (e7 : (p.toList == [76, 69, 65, 83, 84]) = false) (e8 : (p.toList == [80, 69, 82, 67, 69, 78, 84]) = false) (e9 : (p.toList == [78, 85, 77, 66, 69, 82]) = false) (e10 : (p.toList == [67, 79, 85, 78, 84]) = false) (e11 : (p.toList == [68, 65, 89]) = false) :
    Calls Tryz.prog 58 #[.pointer (some ⟨b, 0, none⟩), .string p, .string x] w (TakePost w b (takeOf a (.lit p) x)) := by
  have hT : takeOf a (.lit p) x = (a, decide (x = p)) := rfl
  rw [hT]
  have HA := Lib.hid ha
  clear hT ha
  by_cases hx : x = p
  · have h1 := strEq_true hx
    rw [decide_eq_true hx]
    clear hx
    go_enter Tryz.func58, Tryz.ntmps58
    go_wp2
    go_ret
    exact ⟨rfl, HA.out, grownBy_refl _ _⟩
  · have h1 := strEq_false hx
    rw [decide_eq_false hx]
    clear hx
    go_enter Tryz.func58, Tryz.ntmps58
    go_wp2
    go_ret
    exact ⟨rfl, HA.out, grownBy_refl _ _⟩

end Go.Proofs.YtdgckdmgplpobaaGreatDoor

/- Contracts of article.forms and formOf: the forms, and that of an article. -/
namespace Go.Proofs.YtdgckdmgplpobaaGreatDoor
open Go.RowKit Go.Lib Go.Proofs

def cellsF : List Form → List Value
  | [] => []
  | f :: l => .int .i64 f.kind :: .int .i64 f.what :: .string f.text :: cellsF l

theorem cellsF_get : ∀ (l : List Form) (i : Nat) (hi : i < l.length), (cellsF l)[i * 3]? = some (.int .i64 l[i].kind) ∧ (cellsF l)[i * 3 + 1]? = some (.int .i64 l[i].what) ∧ (cellsF l)[i * 3 + 2]? = some (.string l[i].text)
  | [], i, hi => absurd hi (by simp)
  | x :: l, 0, _ => ⟨rfl, rfl, rfl⟩
  | x :: l, i + 1, hi => by
    have ih := cellsF_get l i (by simpa using hi)
    rw [show (i + 1) * 3 = i * 3 + 3 by omega]
    simpa [cellsF] using ih

def formsWorld (w : World) : World := w.alloc (.cells (cellsF formsL).toArray 60)

set_option maxRecDepth 100000 in
set_option maxHeartbeats 1000000 in
theorem forms_any (w : World) : Calls Tryz.prog 46 #[] w fun e w' => e = .returned (.slice (some ⟨w.heap.size, 0, none⟩) 12 12) ∧ w' = formsWorld w := by
  go_enter Tryz.func46, Tryz.ntmps46
  go_wp2
  go_ret
  exact ⟨rfl, rfl⟩

def Form.cells (f : Form) : Array Value := #[.int .i64 f.kind, .int .i64 f.what, .string f.text]
def noForm : Array Value := #[.int .i64 0, .int .i64 0, .string ⟨#[]⟩]

def FormPost (w : World) (r : Option Form) (e : Ending) (w' : World) : Prop :=
  (match r with
    | some f => e = .returned (.tuple #[.agg f.cells, .bool true])
    | none => e = .returned (.tuple #[.agg noForm, .bool false])) ∧ Below w.heap.size w w'

structure FInv (w : World) (a : Art) (W : World) : Prop where
  art : W.heap[w.heap.size]? = some (.cells a.cells 24 (0, 0))
  res : W.heap[w.heap.size + 1]? = some (.cells noForm 60 (0, 0))
  row : ∀ j, W.cell? ⟨w.heap.size + 1 + 1, j, none⟩ = (cellsF formsL)[j]?
  old : Below w.heap.size w W
  top : w.heap.size + 1 + 1 < W.heap.size

theorem FInv.alloc {w : World} {a : Art} {W : World} (h : FInv w a W) (o : Obj) : FInv w a (W.alloc o) := by
  have ht := h.top
  refine ⟨?_, ?_, fun j => ?_, h.old.alloc h.old.size _, by simp; omega⟩
  · rw [Below.heap_alloc _ _ _ (by omega)]; exact h.art
  · rw [Below.heap_alloc _ _ _ (by omega)]; exact h.res
  · rw [World.cell?_of_block (w := W) (Below.heap_alloc W _ _ ht)]; exact h.row j

theorem finv_new (w : World) (a : Art) : FInv w a (formsWorld ((w.alloc (.cells a.cells 24)).alloc (.cells noForm 60))) := by
  have e1 : (w.alloc (.cells a.cells 24)).heap.size = w.heap.size + 1 := by simp
  have e2 : ((w.alloc (.cells a.cells 24)).alloc (.cells noForm 60)).heap.size = w.heap.size + 1 + 1 := by simp
  unfold formsWorld
  refine ⟨?_, ?_, fun j => ?_, (((Below.refl _ _).alloc (Nat.le_refl _) _).alloc (by simp) _).alloc (by simp; omega) _, by simp⟩
  · rw [Below.heap_alloc _ _ _ (by simp; omega), Below.heap_alloc _ _ _ (by simp)]; exact heap_alloc_new w _
  · rw [Below.heap_alloc _ _ _ (by simp)]
    have := heap_alloc_new (w.alloc (.cells a.cells 24)) (.cells noForm 60)
    rwa [e1] at this
  · have := heap_alloc_new ((w.alloc (.cells a.cells 24)).alloc (.cells noForm 60)) (.cells (cellsF formsL).toArray 60)
    rw [e2] at this
    rw [cell_of_row _ _ _ _ _ _ this]
    simp

theorem FInv.result {w : World} {a : Art} {W : World} (h : FInv w a W) (x y z : Value) {F : World} (hF : F = ((W.setCell ⟨w.heap.size + 1, 0, none⟩ x).setCell ⟨w.heap.size + 1, 1, none⟩ y).setCell ⟨w.heap.size + 1, 2, none⟩ z) :
    F.cell? ⟨w.heap.size + 1, 0, none⟩ = some x ∧ F.cell? ⟨w.heap.size + 1, 1, none⟩ = some y ∧ F.cell? ⟨w.heap.size + 1, 2, none⟩ = some z ∧ Below w.heap.size w F := by
  have h1 := art_set h.res 0 x
  have h2 := art_set h1 1 y
  have h3 := art_set h2 2 z
  rw [← hF] at h3
  have hR : w.heap.size ≤ w.heap.size + 1 := by omega
  refine ⟨by rw [art_cell h3]; rfl, by rw [art_cell h3]; rfl, by rw [art_cell h3]; rfl, ?_⟩
  subst hF
  exact ((h.old.setCell hR _).setCell hR _).setCell hR _

theorem formOf_none {a : Art} (h : ∀ f ∈ formsL, formB a f = false) : formOf a = none := by
  unfold formOf
  rw [List.find?_eq_none]
  intro f hf
  rw [h f hf]
  decide
theorem formOf_some {a : Art} {k : Nat} (hk : k < formsL.length) (h : ∀ f ∈ formsL.take k, formB a f = false) (h2 : formB a formsL[k] = true) : formOf a = some formsL[k] := by
  unfold formOf
  rw [List.find?_eq_some_iff_append]
  refine ⟨h2, formsL.take k, formsL.drop (k + 1), by rw [← List.drop_eq_getElem_cons hk, List.take_append_drop], fun f hf => by rw [h f hf]; decide⟩

set_option maxRecDepth 100000 in
set_option maxHeartbeats 4000000 in
theorem formOf_any (kd : Int) (cd ot nm : ByteArray) (yr am pc nu dy ls wh : Int) (w : World) :
    Calls Tryz.prog 37 #[.agg #[.int .i64 kd, .string cd, .string ot, .string nm, .int .i64 yr, .int .i64 am, .int .i64 pc, .int .i64 nu, .int .i64 dy, .int .i64 ls, .int .i64 wh]] w (FormPost w (formOf ⟨kd, cd, ot, nm, yr, am, pc, nu, dy, ls, wh⟩)) := by
  obtain ⟨r, hr⟩ : ∃ r, r = formOf ⟨kd, cd, ot, nm, yr, am, pc, nu, dy, ls, wh⟩ := ⟨_, rfl⟩
  rw [← hr]
  have HR := Lib.hid hr
  have HI0 := Lib.hid (finv_new w ⟨kd, cd, ot, nm, yr, am, pc, nu, dy, ls, wh⟩)
  have hF := fun W => forms_any W
  have HF := Lib.hid hF
  have hlen : formsL.length = 12 := rfl
  have HLEN := Lib.hid hlen
  clear hr hF hlen
  go_enter Tryz.func37, Tryz.ntmps37
  go_wp2_with fail
  refine (HF.out _).mono ?_
  rintro e w' ⟨rfl, rfl⟩
  have hgen : ∃ W3, W3 = formsWorld ((w.alloc (.cells #[.int .i64 kd, .string cd, .string ot, .string nm, .int .i64 yr, .int .i64 am, .int .i64 pc, .int .i64 nu, .int .i64 dy, .int .i64 ls, .int .i64 wh] 24)).alloc (.cells #[.int .i64 0, .int .i64 0, .string ⟨#[]⟩] 60)) := ⟨_, rfl⟩
  obtain ⟨W3, hW3⟩ := hgen
  have HI3 : Hid (FInv w ⟨kd, cd, ot, nm, yr, am, pc, nu, dy, ls, wh⟩ W3) := Lib.hid (by rw [hW3]; exact HI0.out)
  rw [← hW3]
  clear hW3 HI0
  go_wp2_with fail
  go_loopw [8] (fun i wr => ∃ k : Nat, i = .int .i64 k ∧ k ≤ 12 ∧ Hid (∀ f ∈ formsL.take k, formB ⟨kd, cd, ot, nm, yr, am, pc, nu, dy, ls, wh⟩ f = false) ∧ Hid (FInv w ⟨kd, cd, ot, nm, yr, am, pc, nu, dy, ls, wh⟩ wr)) (fun i _ => 12 - (RowKit.intOf i).toNat)
  case atStart => exact ⟨0, rfl, by omega, Lib.hid (by simp), HI3⟩
  case round =>
    obtain ⟨k, rfl, hk12, HNO, HI⟩ := hrel
    by_cases hlt : k < 12
    · have hkl : k < formsL.length := by rw [HLEN.out]; exact hlt
      obtain ⟨g1, g2, g3⟩ := cellsF_get formsL k hkl
      have c1 := (HI.out.row (k * 3)).trans g1
      have c2 := (HI.out.row (k * 3 + 1)).trans g2
      have c3 := (HI.out.row (k * 3 + 2)).trans g3
      have hone : formB ⟨kd, cd, ot, nm, yr, am, pc, nu, dy, ls, wh⟩ formsL[k] = (decide (formsL[k].kind = kd) && decide (formsL[k].what = wh)) := rfl
      have hstep : formB ⟨kd, cd, ot, nm, yr, am, pc, nu, dy, ls, wh⟩ formsL[k] = false → ∀ f ∈ formsL.take (k + 1), formB ⟨kd, cd, ot, nm, yr, am, pc, nu, dy, ls, wh⟩ f = false := fun h f hf => by
        rw [List.take_succ_eq_append_getElem hkl] at hf
        rcases List.mem_append.1 hf with hf | hf
        · exact HNO.out f hf
        · rw [List.mem_singleton.1 hf]; exact h
      have hhit : formB ⟨kd, cd, ot, nm, yr, am, pc, nu, dy, ls, wh⟩ formsL[k] = true → r = some formsL[k] := fun h => HR.out.trans (formOf_some hkl HNO.out h)
      obtain ⟨f, hf⟩ : ∃ f, f = formsL[k] := ⟨_, rfl⟩
      rw [← hf] at c1 c2 c3 hone hstep hhit
      obtain ⟨fk, fw, fp⟩ := f
      simp only at c1 c2 c3 hone
      generalize hft : Form.text ⟨fk, fw, fp⟩ = ft at c3
      have HIA := Lib.hid (HI.out.alloc (.cells #[.int .i64 fk, .int .i64 fw, .string ft] 60))
      have ha := art_cell HIA.out.art
      have a0 := ha 0
      have a10 := ha 10
      simp only [Art.cells] at a0 a10
      have htop := HI.out.top
      clear g1 g2 g3 ha hf
      by_cases h1 : fk = kd
      · subst h1
        by_cases h2 : fw = wh
        · subst h2
          have hh := hhit (by rw [hone]; simp)
          have HH := Lib.hid hh
          have HFT := Lib.hid hft
          have r0 := art_cell HIA.out.res 0
          have r1 := art_cell HIA.out.res 1
          have r2 := art_cell HIA.out.res 2
          have f0 := art_free HIA.out.res 0
          have f1 := art_free HIA.out.res 1
          have f2 := art_free HIA.out.res 2
          simp only [noForm] at r0 r1 r2
          clear hone hstep hhit hh hft
          go_wp2_with fail
          have HRR := fun F hF => HIA.out.result (.int .i64 fk) (.int .i64 fw) (.string ft) (F := F) hF
          generalize (((wr.alloc (.cells #[.int .i64 fk, .int .i64 fw, .string ft] 60)).setCell ⟨w.heap.size + 1, 0, none⟩ (.int .i64 fk)).setCell ⟨w.heap.size + 1, 1, none⟩ (.int .i64 fw)).setCell ⟨w.heap.size + 1, 2, none⟩ (.string ft) = F at HRR ⊢
          obtain ⟨q0, q1, q2, hb⟩ := HRR F rfl
          refine bodyPost_ret (v := .tuple #[.agg #[.int .i64 fk, .int .i64 fw, .string ft], .bool true]) (by simp [results, Tryz.results37, go_sem, q0, q1, q2]) rfl ⟨?_, hb⟩
          rw [HH.out, ← HFT.out]
          rfl
        · have hd : (fw == wh) = false := by rw [beq_eq_false_iff_ne]; exact h2
          have HN2 := Lib.hid (hstep (by rw [hone]; simp [h2]))
          clear hone hstep hhit h2 hft
          go_wp2_with fail
          go_roundw
          case rel => exact ⟨k + 1, by first | rfl | go_num, by omega, HN2, HIA⟩
          case measure => simp [RowKit.intOf]; omega
      · have hd : (fk == kd) = false := by rw [beq_eq_false_iff_ne]; exact h1
        have HN2 := Lib.hid (hstep (by rw [hone]; simp [h1]))
        clear hone hstep hhit h1 hft
        go_wp2_with fail
        go_roundw
        case rel => exact ⟨k + 1, by first | rfl | go_num, by omega, HN2, HIA⟩
        case measure => simp [RowKit.intOf]; omega
    · obtain rfl : k = 12 := by omega
      have hno : r = none := HR.out.trans (formOf_none (by have := HNO.out; rwa [List.take_of_length_le (by rw [HLEN.out]; omega)] at this))
      have HNN := Lib.hid hno
      have r0 := art_cell HI.out.res 0
      have r1 := art_cell HI.out.res 1
      have r2 := art_cell HI.out.res 2
      have f0 := art_free HI.out.res 0
      have f1 := art_free HI.out.res 1
      have f2 := art_free HI.out.res 2
      simp only [noForm] at r0 r1 r2
      clear hno
      go_wp2_with fail
      have HRR := fun F hF => HI.out.result (.int .i64 0) (.int .i64 0) (.string ⟨#[]⟩) (F := F) hF
      generalize ((wr.setCell ⟨w.heap.size + 1, 0, none⟩ (.int .i64 0)).setCell ⟨w.heap.size + 1, 1, none⟩ (.int .i64 0)).setCell ⟨w.heap.size + 1, 2, none⟩ (.string ⟨#[]⟩) = F at HRR ⊢
      obtain ⟨q0, q1, q2, hb⟩ := HRR F rfl
      refine bodyPost_ret (v := .tuple #[.agg #[.int .i64 0, .int .i64 0, .string ⟨#[]⟩], .bool false]) (by simp [results, Tryz.results37, go_sem, q0, q1, q2]) rfl ⟨?_, hb⟩
      rw [HNN.out]
      rfl

end Go.Proofs.YtdgckdmgplpobaaGreatDoor

/- Contracts of article.word: what an article has at a part of a form. -/
namespace Go.Proofs.YtdgckdmgplpobaaGreatDoor
open Go.RowKit Go.Lib Go.Proofs

theorem cText_art (d : Int) (w : World) (hL : Lay w) : Calls Tryz.prog 73 #[.int .i64 d] w fun e w' => e = .returned (.string (dayT d)) ∧ Below w.heap.size w w' := by
  unfold dayT
  by_cases hd : dayB d = true
  · obtain ⟨h0, h1⟩ := dayB_true.1 hd
    rw [if_pos hd]
    obtain ⟨u, rfl⟩ : ∃ u : Nat, d = u := ⟨d.toNat, by omega⟩
    have := cText_day u w (by omega) (hL.itoa u (by omega))
    rw [Int.toNat_natCast]
    exact this
  · rw [if_neg hd]
    have HV := Lib.hid (cValid_no w (by simpa using hd))
    clear hL hd
    go_enter Tryz.func73, Tryz.ntmps73
    go_wp2_with fail
    refine (HV.out).mono ?_
    rintro e w' ⟨rfl, rfl⟩
    go_wp2
    go_ret
    exact ⟨rfl, Below.refl _ _⟩

set_option maxRecDepth 100000 in
set_option maxHeartbeats 1000000 in
theorem word_code (kd : Int) (cd ot nm : ByteArray) (yr am pc nu dy ls wh : Int) (p : ByteArray) (w : World) (_ : Lay w) (e0 : (p.toList == [67, 79, 68, 69]) = true) :
    Calls Tryz.prog 54 #[.agg #[.int .i64 kd, .string cd, .string ot, .string nm, .int .i64 yr, .int .i64 am, .int .i64 pc, .int .i64 nu, .int .i64 dy, .int .i64 ls, .int .i64 wh], .string p] w fun e w' => e = .returned (.string cd) ∧ Below w.heap.size w w' := by
  go_enter Tryz.func54, Tryz.ntmps54
  go_wp2
  go_ret
  exact ⟨rfl, below_alloc _ _⟩

set_option maxRecDepth 100000 in
set_option maxHeartbeats 1000000 in
theorem word_other (kd : Int) (cd ot nm : ByteArray) (yr am pc nu dy ls wh : Int) (p : ByteArray) (w : World) (_ : Lay w) (e0 : (p.toList == [67, 79, 68, 69]) = false) (e1 : (p.toList == [79, 84, 72, 69, 82]) = true) :
    Calls Tryz.prog 54 #[.agg #[.int .i64 kd, .string cd, .string ot, .string nm, .int .i64 yr, .int .i64 am, .int .i64 pc, .int .i64 nu, .int .i64 dy, .int .i64 ls, .int .i64 wh], .string p] w fun e w' => e = .returned (.string ot) ∧ Below w.heap.size w w' := by
  go_enter Tryz.func54, Tryz.ntmps54
  go_wp2
  go_ret
  exact ⟨rfl, below_alloc _ _⟩

set_option maxRecDepth 100000 in
set_option maxHeartbeats 1000000 in
theorem word_name (kd : Int) (cd ot nm : ByteArray) (yr am pc nu dy ls wh : Int) (p : ByteArray) (w : World) (_ : Lay w) (e0 : (p.toList == [67, 79, 68, 69]) = false) (e1 : (p.toList == [79, 84, 72, 69, 82]) = false) (e2 : (p.toList == [78, 65, 77, 69]) = true) :
    Calls Tryz.prog 54 #[.agg #[.int .i64 kd, .string cd, .string ot, .string nm, .int .i64 yr, .int .i64 am, .int .i64 pc, .int .i64 nu, .int .i64 dy, .int .i64 ls, .int .i64 wh], .string p] w fun e w' => e = .returned (.string nm) ∧ Below w.heap.size w w' := by
  go_enter Tryz.func54, Tryz.ntmps54
  go_wp2
  go_ret
  exact ⟨rfl, below_alloc _ _⟩

set_option maxRecDepth 100000 in
set_option maxHeartbeats 1000000 in
theorem word_year (kd : Int) (cd ot nm : ByteArray) (yr am pc nu dy ls wh : Int) (p : ByteArray) (w : World) (hL : Lay w) (b0 : -9223372036854775808 ≤ yr) (b1 : yr ≤ 9223372036854775807) (e0 : (p.toList == [67, 79, 68, 69]) = false) (e1 : (p.toList == [79, 84, 72, 69, 82]) = false) (e2 : (p.toList == [78, 65, 77, 69]) = false) (e3 : (p.toList == [89, 69, 65, 82]) = true) :
    Calls Tryz.prog 54 #[.agg #[.int .i64 kd, .string cd, .string ot, .string nm, .int .i64 yr, .int .i64 am, .int .i64 pc, .int .i64 nu, .int .i64 dy, .int .i64 ls, .int .i64 wh], .string p] w fun e w' => e = .returned (.string (itoaT yr)) ∧ Below w.heap.size w w' := by
  have HI := Lib.hid (fun o => itoa_any yr (w.alloc o) (hL.below (below_alloc w o) (Nat.le_refl _)) b0 b1)
  clear b0 b1 hL
  go_enter Tryz.func54, Tryz.ntmps54
  go_wp2_with fail
  refine (HI.out _).mono ?_
  rintro e w1 ⟨rfl, hb⟩
  go_wp2
  go_ret
  exact ⟨rfl, (below_alloc _ _).trans (hb.mono (below_alloc _ _).size)⟩

set_option maxRecDepth 100000 in
set_option maxHeartbeats 1000000 in
theorem word_span (kd : Int) (cd ot nm : ByteArray) (yr am pc nu dy ls wh : Int) (p : ByteArray) (w : World) (hL : Lay w) (b0 : -9223372036854775808 ≤ yr) (b1 : yr ≤ 9223372036854775807) (e0 : (p.toList == [67, 79, 68, 69]) = false) (e1 : (p.toList == [79, 84, 72, 69, 82]) = false) (e2 : (p.toList == [78, 65, 77, 69]) = false) (e3 : (p.toList == [89, 69, 65, 82]) = false) (e4 : (p.toList == [83, 80, 65, 78]) = true) :
    Calls Tryz.prog 54 #[.agg #[.int .i64 kd, .string cd, .string ot, .string nm, .int .i64 yr, .int .i64 am, .int .i64 pc, .int .i64 nu, .int .i64 dy, .int .i64 ls, .int .i64 wh], .string p] w fun e w' => e = .returned (.string (numOr yr allT)) ∧ Below w.heap.size w w' := by
  have HI := Lib.hid (fun o => numberOr_any yr allT (w.alloc o) (hL.below (below_alloc w o) (Nat.le_refl _)) b0 b1)
  clear b0 b1 hL
  unfold allT at HI ⊢
  go_enter Tryz.func54, Tryz.ntmps54
  go_wp2_with fail
  refine (HI.out _).mono ?_
  rintro e w1 ⟨rfl, hb⟩
  go_wp2
  go_ret
  exact ⟨rfl, (below_alloc _ _).trans (hb.mono (below_alloc _ _).size)⟩

set_option maxRecDepth 100000 in
set_option maxHeartbeats 1000000 in
theorem word_amount (kd : Int) (cd ot nm : ByteArray) (yr am pc nu dy ls wh : Int) (p : ByteArray) (w : World) (hL : Lay w) (b0 : -9223372036854775808 ≤ am) (b1 : am ≤ 9223372036854775807) (e0 : (p.toList == [67, 79, 68, 69]) = false) (e1 : (p.toList == [79, 84, 72, 69, 82]) = false) (e2 : (p.toList == [78, 65, 77, 69]) = false) (e3 : (p.toList == [89, 69, 65, 82]) = false) (e4 : (p.toList == [83, 80, 65, 78]) = false) (e5 : (p.toList == [65, 77, 79, 85, 78, 84]) = true) :
    Calls Tryz.prog 54 #[.agg #[.int .i64 kd, .string cd, .string ot, .string nm, .int .i64 yr, .int .i64 am, .int .i64 pc, .int .i64 nu, .int .i64 dy, .int .i64 ls, .int .i64 wh], .string p] w fun e w' => e = .returned (.string (itoaT am)) ∧ Below w.heap.size w w' := by
  have HI := Lib.hid (fun o => itoa_any am (w.alloc o) (hL.below (below_alloc w o) (Nat.le_refl _)) b0 b1)
  clear b0 b1 hL
  go_enter Tryz.func54, Tryz.ntmps54
  go_wp2_with fail
  refine (HI.out _).mono ?_
  rintro e w1 ⟨rfl, hb⟩
  go_wp2
  go_ret
  exact ⟨rfl, (below_alloc _ _).trans (hb.mono (below_alloc _ _).size)⟩

set_option maxRecDepth 100000 in
set_option maxHeartbeats 1000000 in
theorem word_limit (kd : Int) (cd ot nm : ByteArray) (yr am pc nu dy ls wh : Int) (p : ByteArray) (w : World) (hL : Lay w) (b0 : -9223372036854775808 ≤ am) (b1 : am ≤ 9223372036854775807) (e0 : (p.toList == [67, 79, 68, 69]) = false) (e1 : (p.toList == [79, 84, 72, 69, 82]) = false) (e2 : (p.toList == [78, 65, 77, 69]) = false) (e3 : (p.toList == [89, 69, 65, 82]) = false) (e4 : (p.toList == [83, 80, 65, 78]) = false) (e5 : (p.toList == [65, 77, 79, 85, 78, 84]) = false) (e6 : (p.toList == [76, 73, 77, 73, 84]) = true) :
    Calls Tryz.prog 54 #[.agg #[.int .i64 kd, .string cd, .string ot, .string nm, .int .i64 yr, .int .i64 am, .int .i64 pc, .int .i64 nu, .int .i64 dy, .int .i64 ls, .int .i64 wh], .string p] w fun e w' => e = .returned (.string (numOr am noneT)) ∧ Below w.heap.size w w' := by
  have HI := Lib.hid (fun o => numberOr_any am noneT (w.alloc o) (hL.below (below_alloc w o) (Nat.le_refl _)) b0 b1)
  clear b0 b1 hL
  unfold noneT at HI ⊢
  go_enter Tryz.func54, Tryz.ntmps54
  go_wp2_with fail
  refine (HI.out _).mono ?_
  rintro e w1 ⟨rfl, hb⟩
  go_wp2
  go_ret
  exact ⟨rfl, (below_alloc _ _).trans (hb.mono (below_alloc _ _).size)⟩

set_option maxRecDepth 100000 in
set_option maxHeartbeats 1000000 in
theorem word_least (kd : Int) (cd ot nm : ByteArray) (yr am pc nu dy ls wh : Int) (p : ByteArray) (w : World) (hL : Lay w) (b0 : -9223372036854775808 ≤ ls) (b1 : ls ≤ 9223372036854775807) (e0 : (p.toList == [67, 79, 68, 69]) = false) (e1 : (p.toList == [79, 84, 72, 69, 82]) = false) (e2 : (p.toList == [78, 65, 77, 69]) = false) (e3 : (p.toList == [89, 69, 65, 82]) = false) (e4 : (p.toList == [83, 80, 65, 78]) = false) (e5 : (p.toList == [65, 77, 79, 85, 78, 84]) = false) (e6 : (p.toList == [76, 73, 77, 73, 84]) = false) (e7 : (p.toList == [76, 69, 65, 83, 84]) = true) :
    Calls Tryz.prog 54 #[.agg #[.int .i64 kd, .string cd, .string ot, .string nm, .int .i64 yr, .int .i64 am, .int .i64 pc, .int .i64 nu, .int .i64 dy, .int .i64 ls, .int .i64 wh], .string p] w fun e w' => e = .returned (.string (itoaT ls)) ∧ Below w.heap.size w w' := by
  have HI := Lib.hid (fun o => itoa_any ls (w.alloc o) (hL.below (below_alloc w o) (Nat.le_refl _)) b0 b1)
  clear b0 b1 hL
  go_enter Tryz.func54, Tryz.ntmps54
  go_wp2_with fail
  refine (HI.out _).mono ?_
  rintro e w1 ⟨rfl, hb⟩
  go_wp2
  go_ret
  exact ⟨rfl, (below_alloc _ _).trans (hb.mono (below_alloc _ _).size)⟩

set_option maxRecDepth 100000 in
set_option maxHeartbeats 1000000 in
theorem word_percent (kd : Int) (cd ot nm : ByteArray) (yr am pc nu dy ls wh : Int) (p : ByteArray) (w : World) (hL : Lay w) (b0 : -9223372036854775808 ≤ pc) (b1 : pc ≤ 9223372036854775807) (e0 : (p.toList == [67, 79, 68, 69]) = false) (e1 : (p.toList == [79, 84, 72, 69, 82]) = false) (e2 : (p.toList == [78, 65, 77, 69]) = false) (e3 : (p.toList == [89, 69, 65, 82]) = false) (e4 : (p.toList == [83, 80, 65, 78]) = false) (e5 : (p.toList == [65, 77, 79, 85, 78, 84]) = false) (e6 : (p.toList == [76, 73, 77, 73, 84]) = false) (e7 : (p.toList == [76, 69, 65, 83, 84]) = false) (e8 : (p.toList == [80, 69, 82, 67, 69, 78, 84]) = true) :
    Calls Tryz.prog 54 #[.agg #[.int .i64 kd, .string cd, .string ot, .string nm, .int .i64 yr, .int .i64 am, .int .i64 pc, .int .i64 nu, .int .i64 dy, .int .i64 ls, .int .i64 wh], .string p] w fun e w' => e = .returned (.string (itoaT pc)) ∧ Below w.heap.size w w' := by
  have HI := Lib.hid (fun o => itoa_any pc (w.alloc o) (hL.below (below_alloc w o) (Nat.le_refl _)) b0 b1)
  clear b0 b1 hL
  go_enter Tryz.func54, Tryz.ntmps54
  go_wp2_with fail
  refine (HI.out _).mono ?_
  rintro e w1 ⟨rfl, hb⟩
  go_wp2
  go_ret
  exact ⟨rfl, (below_alloc _ _).trans (hb.mono (below_alloc _ _).size)⟩

set_option maxRecDepth 100000 in
set_option maxHeartbeats 1000000 in
theorem word_number (kd : Int) (cd ot nm : ByteArray) (yr am pc nu dy ls wh : Int) (p : ByteArray) (w : World) (hL : Lay w) (b0 : -9223372036854775808 ≤ nu) (b1 : nu ≤ 9223372036854775807) (e0 : (p.toList == [67, 79, 68, 69]) = false) (e1 : (p.toList == [79, 84, 72, 69, 82]) = false) (e2 : (p.toList == [78, 65, 77, 69]) = false) (e3 : (p.toList == [89, 69, 65, 82]) = false) (e4 : (p.toList == [83, 80, 65, 78]) = false) (e5 : (p.toList == [65, 77, 79, 85, 78, 84]) = false) (e6 : (p.toList == [76, 73, 77, 73, 84]) = false) (e7 : (p.toList == [76, 69, 65, 83, 84]) = false) (e8 : (p.toList == [80, 69, 82, 67, 69, 78, 84]) = false) (e9 : (p.toList == [78, 85, 77, 66, 69, 82]) = true) :
    Calls Tryz.prog 54 #[.agg #[.int .i64 kd, .string cd, .string ot, .string nm, .int .i64 yr, .int .i64 am, .int .i64 pc, .int .i64 nu, .int .i64 dy, .int .i64 ls, .int .i64 wh], .string p] w fun e w' => e = .returned (.string (itoaT nu)) ∧ Below w.heap.size w w' := by
  have HI := Lib.hid (fun o => itoa_any nu (w.alloc o) (hL.below (below_alloc w o) (Nat.le_refl _)) b0 b1)
  clear b0 b1 hL
  go_enter Tryz.func54, Tryz.ntmps54
  go_wp2_with fail
  refine (HI.out _).mono ?_
  rintro e w1 ⟨rfl, hb⟩
  go_wp2
  go_ret
  exact ⟨rfl, (below_alloc _ _).trans (hb.mono (below_alloc _ _).size)⟩

set_option maxRecDepth 100000 in
set_option maxHeartbeats 1000000 in
theorem word_count (kd : Int) (cd ot nm : ByteArray) (yr am pc nu dy ls wh : Int) (p : ByteArray) (w : World) (hL : Lay w) (b0 : -9223372036854775808 ≤ nu) (b1 : nu ≤ 9223372036854775807) (e0 : (p.toList == [67, 79, 68, 69]) = false) (e1 : (p.toList == [79, 84, 72, 69, 82]) = false) (e2 : (p.toList == [78, 65, 77, 69]) = false) (e3 : (p.toList == [89, 69, 65, 82]) = false) (e4 : (p.toList == [83, 80, 65, 78]) = false) (e5 : (p.toList == [65, 77, 79, 85, 78, 84]) = false) (e6 : (p.toList == [76, 73, 77, 73, 84]) = false) (e7 : (p.toList == [76, 69, 65, 83, 84]) = false) (e8 : (p.toList == [80, 69, 82, 67, 69, 78, 84]) = false) (e9 : (p.toList == [78, 85, 77, 66, 69, 82]) = false) (e10 : (p.toList == [67, 79, 85, 78, 84]) = true) :
    Calls Tryz.prog 54 #[.agg #[.int .i64 kd, .string cd, .string ot, .string nm, .int .i64 yr, .int .i64 am, .int .i64 pc, .int .i64 nu, .int .i64 dy, .int .i64 ls, .int .i64 wh], .string p] w fun e w' => e = .returned (.string (itoaT nu)) ∧ Below w.heap.size w w' := by
  have HI := Lib.hid (fun o => itoa_any nu (w.alloc o) (hL.below (below_alloc w o) (Nat.le_refl _)) b0 b1)
  clear b0 b1 hL
  go_enter Tryz.func54, Tryz.ntmps54
  go_wp2_with fail
  refine (HI.out _).mono ?_
  rintro e w1 ⟨rfl, hb⟩
  go_wp2
  go_ret
  exact ⟨rfl, (below_alloc _ _).trans (hb.mono (below_alloc _ _).size)⟩

set_option maxRecDepth 100000 in
set_option maxHeartbeats 1000000 in
theorem word_day (kd : Int) (cd ot nm : ByteArray) (yr am pc nu dy ls wh : Int) (p : ByteArray) (w : World) (hL : Lay w) (e0 : (p.toList == [67, 79, 68, 69]) = false) (e1 : (p.toList == [79, 84, 72, 69, 82]) = false) (e2 : (p.toList == [78, 65, 77, 69]) = false) (e3 : (p.toList == [89, 69, 65, 82]) = false) (e4 : (p.toList == [83, 80, 65, 78]) = false) (e5 : (p.toList == [65, 77, 79, 85, 78, 84]) = false) (e6 : (p.toList == [76, 73, 77, 73, 84]) = false) (e7 : (p.toList == [76, 69, 65, 83, 84]) = false) (e8 : (p.toList == [80, 69, 82, 67, 69, 78, 84]) = false) (e9 : (p.toList == [78, 85, 77, 66, 69, 82]) = false) (e10 : (p.toList == [67, 79, 85, 78, 84]) = false) (e11 : (p.toList == [68, 65, 89]) = true) :
    Calls Tryz.prog 54 #[.agg #[.int .i64 kd, .string cd, .string ot, .string nm, .int .i64 yr, .int .i64 am, .int .i64 pc, .int .i64 nu, .int .i64 dy, .int .i64 ls, .int .i64 wh], .string p] w fun e w' => e = .returned (.string (dayT dy)) ∧ Below w.heap.size w w' := by
  have HI := Lib.hid (fun o => cText_art dy (w.alloc o) (hL.below (below_alloc w o) (Nat.le_refl _)))
  clear hL
  go_enter Tryz.func54, Tryz.ntmps54
  go_wp2_with fail
  refine (HI.out _).mono ?_
  rintro e w1 ⟨rfl, hb⟩
  go_wp2
  go_ret
  exact ⟨rfl, (below_alloc _ _).trans (hb.mono (below_alloc _ _).size)⟩

set_option maxRecDepth 100000 in
set_option maxHeartbeats 1000000 in
theorem word_lit (kd : Int) (cd ot nm : ByteArray) (yr am pc nu dy ls wh : Int) (p : ByteArray) (w : World) (_ : Lay w) (e0 : (p.toList == [67, 79, 68, 69]) = false) (e1 : (p.toList == [79, 84, 72, 69, 82]) = false) (e2 : (p.toList == [78, 65, 77, 69]) = false) (e3 : (p.toList == [89, 69, 65, 82]) = false) (e4 : (p.toList == [83, 80, 65, 78]) = false) (e5 : (p.toList == [65, 77, 79, 85, 78, 84]) = false) (e6 : (p.toList == [76, 73, 77, 73, 84]) = false) (e7 : (p.toList == [76, 69, 65, 83, 84]) = false) (e8 : (p.toList == [80, 69, 82, 67, 69, 78, 84]) = false) (e9 : (p.toList == [78, 85, 77, 66, 69, 82]) = false) (e10 : (p.toList == [67, 79, 85, 78, 84]) = false) (e11 : (p.toList == [68, 65, 89]) = false) :
    Calls Tryz.prog 54 #[.agg #[.int .i64 kd, .string cd, .string ot, .string nm, .int .i64 yr, .int .i64 am, .int .i64 pc, .int .i64 nu, .int .i64 dy, .int .i64 ls, .int .i64 wh], .string p] w fun e w' => e = .returned (.string p) ∧ Below w.heap.size w w' := by
  go_enter Tryz.func54, Tryz.ntmps54
  go_wp2
  go_ret
  exact ⟨rfl, below_alloc _ _⟩

end Go.Proofs.YtdgckdmgplpobaaGreatDoor

/- Facts of the twelve forms: their words, their blanks; and of cutting a text at more blanks than it has; of no function of the program; no condition. -/
namespace Go.Proofs.YtdgckdmgplpobaaGreatDoor
open Go.RowKit Go.Lib Go.Proofs

def fieldL : List (List UInt8) := [[67, 79, 68, 69], [79, 84, 72, 69, 82], [78, 65, 77, 69], [89, 69, 65, 82], [83, 80, 65, 78], [65, 77, 79, 85, 78, 84], [76, 73, 77, 73, 84], [76, 69, 65, 83, 84], [80, 69, 82, 67, 69, 78, 84], [78, 85, 77, 66, 69, 82], [67, 79, 85, 78, 84], [68, 65, 89]]

def litOk : Fd → Bool
  | .lit w => !fieldL.contains w.data.toList
  | _ => true

set_option maxRecDepth 100000 in
theorem forms_parts : ∀ f ∈ formsL, f.parts.isEmpty = false ∧ f.parts.all litOk = true ∧ (f.parts.all fun p => !p.text.data.toList.contains 32) = true := by decide
set_option maxRecDepth 100000 in
theorem forms_count : ∀ f ∈ formsL, f.text.data.toList.count 32 = f.parts.length - 1 := by decide
set_option maxRecDepth 100000 in
theorem forms_small : ∀ f ∈ formsL, f.text.size ≤ 100 ∧ f.parts.length ≤ 7 := by decide

theorem form_words {f : Form} (hf : f ∈ formsL) : wordsB 32 f.text = f.parts.map Fd.text := by
  obtain ⟨h1, _, h3⟩ := forms_parts f hf
  unfold wordsB Form.text
  rw [txt_list, words_join]
  · rw [List.map_map]
    refine List.map_congr_left fun p _ => txt_back _
  · intro e
    have := List.map_eq_nil_iff.1 e
    rw [this] at h1
    cases h1
  · intro w hw
    obtain ⟨p, hp, rfl⟩ := List.mem_map.1 hw
    have := List.all_eq_true.1 h3 p hp
    simpa using this

theorem cutK_sat : ∀ (n k : Nat) (l : List UInt8), l.length ≤ n → l.length ≤ k → cutK k l = cutK l.length l := by
  intro n
  induction n with
  | zero =>
    intro k l hn hk
    have : l = [] := List.length_eq_zero_iff.1 (by omega)
    subst this
    rw [cutK_no _ (by simp), cutK_no _ (by simp)]
  | succ n ih =>
    intro k l hn hk
    by_cases h : (32 : UInt8) ∈ l
    · rcases indexByte_cases l 32 with ⟨_, h2⟩ | ⟨i, h1, h2, h3, h4⟩
      · exact absurd h h2
      · have e : l = l.take i ++ 32 :: l.drop (i + 1) := by rw [← h4, List.take_append_drop]
        have hr : (l.drop (i + 1)).length ≤ l.length - 1 := by rw [List.length_drop]; omega
        obtain ⟨k', rfl⟩ : ∃ k', k = k' + 1 := ⟨k - 1, by omega⟩
        obtain ⟨m, hm⟩ : ∃ m, l.length = m + 1 := ⟨l.length - 1, by omega⟩
        rw [hm, e, cutK_hit _ h3, cutK_hit _ h3, ih k' _ (by omega) (by omega), ih m (l.drop (i + 1)) (by omega) (by omega)]
    · rw [cutK_no _ h, cutK_no _ h]

theorem splitN_cut (t : ByteArray) (n : Nat) : splitB ⟨#[32]⟩ 0 (min n (t.size + 1) - 1) t = (cutK (n - 1) t.data.toList).map txt := by
  have h := splitB_data ⟨#[32]⟩ 0 (min n (t.size + 1) - 1) t
  have h2 : splitK (⟨#[32]⟩ : ByteArray).data.toList 0 (min n (t.size + 1) - 1) t.data.toList = cutK (n - 1) t.data.toList := by
    show cutK (min n (t.size + 1) - 1) t.data.toList = _
    by_cases hc : n ≤ t.size + 1
    · rw [Nat.min_eq_left hc]
    · rw [Nat.min_eq_right (by omega), cutK_sat _ (n - 1) t.data.toList (Nat.le_refl _) (by rw [← size_list]; omega), size_list]
      rfl
  rw [h2] at h
  rw [← h, List.map_map]
  exact (List.map_id'' (fun s => txt_back s) _).symm

theorem splitK_ne (k : Nat) (l : List UInt8) : cutK k l ≠ [] := by
  cases k with
  | zero => simp [cutK, splitK]
  | succ k => unfold cutK splitK; split <;> simp

theorem splitK_len : ∀ (k : Nat) (l : List UInt8), (cutK k l).length ≤ k + 1
  | 0, l => by simp [cutK, splitK]
  | k + 1, l => by
    unfold cutK splitK
    split
    · simp
    · have := splitK_len k (l.drop ((index l [32]).toNat + [(32 : UInt8)].length))
      unfold cutK at this
      rw [List.length_cons]
      omega

theorem splitK_len2 : ∀ (k : Nat) (l : List UInt8), (cutK k l).length ≤ l.length + 1
  | 0, l => by simp [cutK, splitK]
  | k + 1, l => by
    by_cases h : (32 : UInt8) ∈ l
    · rcases indexByte_cases l 32 with ⟨_, h2⟩ | ⟨i, h1, h2, h3, h4⟩
      · exact absurd h h2
      · have e : l = l.take i ++ 32 :: l.drop (i + 1) := by rw [← h4, List.take_append_drop]
        have hr : (l.drop (i + 1)).length = l.length - (i + 1) := List.length_drop
        have ih := splitK_len2 k (l.drop (i + 1))
        rw [e, cutK_hit _ h3, List.length_cons, ← e]
        omega
    · rw [cutK_no _ h]; simp

theorem splitK_sizes : ∀ (k : Nat) (l : List UInt8), ∀ x ∈ cutK k l, x.length ≤ l.length
  | 0, l => by intro x hx; simp [cutK, splitK] at hx; rw [hx]; exact Nat.le_refl _
  | k + 1, l => by
    intro x hx
    unfold cutK splitK at hx
    split at hx
    · rw [List.mem_singleton.1 hx]; exact Nat.le_refl _
    · rcases List.mem_cons.1 hx with rfl | hx
      · rw [List.length_take]; omega
      · have := splitK_sizes k _ x hx
        rw [List.length_drop] at this
        omega

end Go.Proofs.YtdgckdmgplpobaaGreatDoor

/- Contracts of article.take and word for every part of a form. -/
namespace Go.Proofs.YtdgckdmgplpobaaGreatDoor
open Go.RowKit Go.Lib Go.Proofs

theorem ne_of_list {a : ByteArray} {l : List UInt8} (h : a.data.toList ≠ l) : (a.toList == l) = false := by rw [ByteArray.toList_eq, beq_eq_false_iff_ne]; exact h
theorem eq_of_list {a : ByteArray} {l : List UInt8} (h : a.data.toList = l) : (a.toList == l) = true := by rw [ByteArray.toList_eq, h]; exact beq_self_eq_true _

structure NoField (p : ByteArray) : Prop where
  e0 : (p.toList == [67, 79, 68, 69]) = false
  e1 : (p.toList == [79, 84, 72, 69, 82]) = false
  e2 : (p.toList == [78, 65, 77, 69]) = false
  e3 : (p.toList == [89, 69, 65, 82]) = false
  e4 : (p.toList == [83, 80, 65, 78]) = false
  e5 : (p.toList == [65, 77, 79, 85, 78, 84]) = false
  e6 : (p.toList == [76, 73, 77, 73, 84]) = false
  e7 : (p.toList == [76, 69, 65, 83, 84]) = false
  e8 : (p.toList == [80, 69, 82, 67, 69, 78, 84]) = false
  e9 : (p.toList == [78, 85, 77, 66, 69, 82]) = false
  e10 : (p.toList == [67, 79, 85, 78, 84]) = false
  e11 : (p.toList == [68, 65, 89]) = false

theorem noField {w : ByteArray} (h : litOk (.lit w) = true) : NoField w := by
  have hm : ∀ l ∈ fieldL, w.data.toList ≠ l := fun l hl e => by
    have h' : (!fieldL.contains w.data.toList) = true := h
    rw [e] at h'
    simp [hl] at h'
  exact ⟨ne_of_list (hm _ (by simp [fieldL])), ne_of_list (hm _ (by simp [fieldL])), ne_of_list (hm _ (by simp [fieldL])), ne_of_list (hm _ (by simp [fieldL])), ne_of_list (hm _ (by simp [fieldL])), ne_of_list (hm _ (by simp [fieldL])), ne_of_list (hm _ (by simp [fieldL])), ne_of_list (hm _ (by simp [fieldL])), ne_of_list (hm _ (by simp [fieldL])), ne_of_list (hm _ (by simp [fieldL])), ne_of_list (hm _ (by simp [fieldL])), ne_of_list (hm _ (by simp [fieldL]))⟩

theorem take_any (a : Art) (f : Fd) (hf : litOk f = true) (x : ByteArray) (b : Nat) (w : World) (hL : Lay w) (hs : x.size ≤ 1000000) (ha : ArtAt w b a) :
    Calls Tryz.prog 58 #[.pointer (some ⟨b, 0, none⟩), .string f.text, .string x] w (TakePost w b (takeOf a f x)) := by
  obtain ⟨kd, cd, ot, nm, yr, am, pc, nu, dy, ls, wh⟩ := a
  cases f with
  | code => exact take_code kd cd ot nm yr am pc nu dy ls wh _ x b w hL hs ha (eq_of_list rfl)
  | other => exact take_other kd cd ot nm yr am pc nu dy ls wh _ x b w hL hs ha (ne_of_list (by decide)) (eq_of_list rfl)
  | name => exact take_name kd cd ot nm yr am pc nu dy ls wh _ x b w hL hs ha (ne_of_list (by decide)) (ne_of_list (by decide)) (eq_of_list rfl)
  | year => exact take_year kd cd ot nm yr am pc nu dy ls wh _ x b w hL hs ha (ne_of_list (by decide)) (ne_of_list (by decide)) (ne_of_list (by decide)) (eq_of_list rfl)
  | span => exact take_span kd cd ot nm yr am pc nu dy ls wh _ x b w hL hs ha (ne_of_list (by decide)) (ne_of_list (by decide)) (ne_of_list (by decide)) (ne_of_list (by decide)) (eq_of_list rfl)
  | amount => exact take_amount kd cd ot nm yr am pc nu dy ls wh _ x b w hL hs ha (ne_of_list (by decide)) (ne_of_list (by decide)) (ne_of_list (by decide)) (ne_of_list (by decide)) (ne_of_list (by decide)) (eq_of_list rfl)
  | limit => exact take_limit kd cd ot nm yr am pc nu dy ls wh _ x b w hL hs ha (ne_of_list (by decide)) (ne_of_list (by decide)) (ne_of_list (by decide)) (ne_of_list (by decide)) (ne_of_list (by decide)) (ne_of_list (by decide)) (eq_of_list rfl)
  | least => exact take_least kd cd ot nm yr am pc nu dy ls wh _ x b w hL hs ha (ne_of_list (by decide)) (ne_of_list (by decide)) (ne_of_list (by decide)) (ne_of_list (by decide)) (ne_of_list (by decide)) (ne_of_list (by decide)) (ne_of_list (by decide)) (eq_of_list rfl)
  | percent => exact take_percent kd cd ot nm yr am pc nu dy ls wh _ x b w hL hs ha (ne_of_list (by decide)) (ne_of_list (by decide)) (ne_of_list (by decide)) (ne_of_list (by decide)) (ne_of_list (by decide)) (ne_of_list (by decide)) (ne_of_list (by decide)) (ne_of_list (by decide)) (eq_of_list rfl)
  | number => exact take_number kd cd ot nm yr am pc nu dy ls wh _ x b w hL hs ha (ne_of_list (by decide)) (ne_of_list (by decide)) (ne_of_list (by decide)) (ne_of_list (by decide)) (ne_of_list (by decide)) (ne_of_list (by decide)) (ne_of_list (by decide)) (ne_of_list (by decide)) (ne_of_list (by decide)) (eq_of_list rfl)
  | count => exact take_count kd cd ot nm yr am pc nu dy ls wh _ x b w hL hs ha (ne_of_list (by decide)) (ne_of_list (by decide)) (ne_of_list (by decide)) (ne_of_list (by decide)) (ne_of_list (by decide)) (ne_of_list (by decide)) (ne_of_list (by decide)) (ne_of_list (by decide)) (ne_of_list (by decide)) (ne_of_list (by decide)) (eq_of_list rfl)
  | day => exact take_day kd cd ot nm yr am pc nu dy ls wh _ x b w hL hs ha (ne_of_list (by decide)) (ne_of_list (by decide)) (ne_of_list (by decide)) (ne_of_list (by decide)) (ne_of_list (by decide)) (ne_of_list (by decide)) (ne_of_list (by decide)) (ne_of_list (by decide)) (ne_of_list (by decide)) (ne_of_list (by decide)) (ne_of_list (by decide)) (eq_of_list rfl)
  | lit p =>
    have h := noField hf
    exact take_lit _ p x b w ha h.e0 h.e1 h.e2 h.e3 h.e4 h.e5 h.e6 h.e7 h.e8 h.e9 h.e10 h.e11

structure ArtBd (a : Art) : Prop where
  y0 : -9223372036854775808 ≤ a.year
  y1 : a.year ≤ 9223372036854775807
  a0 : -9223372036854775808 ≤ a.amount
  a1 : a.amount ≤ 9223372036854775807
  p0 : -9223372036854775808 ≤ a.percent
  p1 : a.percent ≤ 9223372036854775807
  n0 : -9223372036854775808 ≤ a.number
  n1 : a.number ≤ 9223372036854775807
  l0 : -9223372036854775808 ≤ a.least
  l1 : a.least ≤ 9223372036854775807

theorem word_any (a : Art) (f : Fd) (hf : litOk f = true) (w : World) (hL : Lay w) (hb : ArtBd a) :
    Calls Tryz.prog 54 #[.agg a.cells, .string f.text] w fun e w' => e = .returned (.string (wordOf a f)) ∧ Below w.heap.size w w' := by
  obtain ⟨kd, cd, ot, nm, yr, am, pc, nu, dy, ls, wh⟩ := a
  cases f with
  | code => exact word_code kd cd ot nm yr am pc nu dy ls wh _ w hL  (eq_of_list rfl)
  | other => exact word_other kd cd ot nm yr am pc nu dy ls wh _ w hL  (ne_of_list (by decide)) (eq_of_list rfl)
  | name => exact word_name kd cd ot nm yr am pc nu dy ls wh _ w hL  (ne_of_list (by decide)) (ne_of_list (by decide)) (eq_of_list rfl)
  | year => exact word_year kd cd ot nm yr am pc nu dy ls wh _ w hL hb.y0 hb.y1 (ne_of_list (by decide)) (ne_of_list (by decide)) (ne_of_list (by decide)) (eq_of_list rfl)
  | span => exact word_span kd cd ot nm yr am pc nu dy ls wh _ w hL hb.y0 hb.y1 (ne_of_list (by decide)) (ne_of_list (by decide)) (ne_of_list (by decide)) (ne_of_list (by decide)) (eq_of_list rfl)
  | amount => exact word_amount kd cd ot nm yr am pc nu dy ls wh _ w hL hb.a0 hb.a1 (ne_of_list (by decide)) (ne_of_list (by decide)) (ne_of_list (by decide)) (ne_of_list (by decide)) (ne_of_list (by decide)) (eq_of_list rfl)
  | limit => exact word_limit kd cd ot nm yr am pc nu dy ls wh _ w hL hb.a0 hb.a1 (ne_of_list (by decide)) (ne_of_list (by decide)) (ne_of_list (by decide)) (ne_of_list (by decide)) (ne_of_list (by decide)) (ne_of_list (by decide)) (eq_of_list rfl)
  | least => exact word_least kd cd ot nm yr am pc nu dy ls wh _ w hL hb.l0 hb.l1 (ne_of_list (by decide)) (ne_of_list (by decide)) (ne_of_list (by decide)) (ne_of_list (by decide)) (ne_of_list (by decide)) (ne_of_list (by decide)) (ne_of_list (by decide)) (eq_of_list rfl)
  | percent => exact word_percent kd cd ot nm yr am pc nu dy ls wh _ w hL hb.p0 hb.p1 (ne_of_list (by decide)) (ne_of_list (by decide)) (ne_of_list (by decide)) (ne_of_list (by decide)) (ne_of_list (by decide)) (ne_of_list (by decide)) (ne_of_list (by decide)) (ne_of_list (by decide)) (eq_of_list rfl)
  | number => exact word_number kd cd ot nm yr am pc nu dy ls wh _ w hL hb.n0 hb.n1 (ne_of_list (by decide)) (ne_of_list (by decide)) (ne_of_list (by decide)) (ne_of_list (by decide)) (ne_of_list (by decide)) (ne_of_list (by decide)) (ne_of_list (by decide)) (ne_of_list (by decide)) (ne_of_list (by decide)) (eq_of_list rfl)
  | count => exact word_count kd cd ot nm yr am pc nu dy ls wh _ w hL hb.n0 hb.n1 (ne_of_list (by decide)) (ne_of_list (by decide)) (ne_of_list (by decide)) (ne_of_list (by decide)) (ne_of_list (by decide)) (ne_of_list (by decide)) (ne_of_list (by decide)) (ne_of_list (by decide)) (ne_of_list (by decide)) (ne_of_list (by decide)) (eq_of_list rfl)
  | day => exact word_day kd cd ot nm yr am pc nu dy ls wh _ w hL (ne_of_list (by decide)) (ne_of_list (by decide)) (ne_of_list (by decide)) (ne_of_list (by decide)) (ne_of_list (by decide)) (ne_of_list (by decide)) (ne_of_list (by decide)) (ne_of_list (by decide)) (ne_of_list (by decide)) (ne_of_list (by decide)) (ne_of_list (by decide)) (eq_of_list rfl)
  | lit p =>
    have h := noField hf
    exact word_lit kd cd ot nm yr am pc nu dy ls wh p w hL h.e0 h.e1 h.e2 h.e3 h.e4 h.e5 h.e6 h.e7 h.e8 h.e9 h.e10 h.e11

end Go.Proofs.YtdgckdmgplpobaaGreatDoor
