/- Texts of one claim, merged: ClValid, CodeM, ClChildren, MapSB, ClLeaves, Texts, ClAwake, ArtTake, ArtForms, ArtWord, ArtF, ArtParts. -/
import Derived.Test.YtdedihdkkaoapaaGreatDoorG1
import Derived.StillTailTactics
import Derived.IntWalk
import Derived.Maps.OwnSet
import Derived.Maps.Views
/- Contracts of classification.headingFault, fault and Valid: the first error that applies to a list of headings, and the number of its heading; for lists of up to 10^6 headings with texts of up to 10^6 bytes. -/
namespace Go.Proofs.YtdedihdkkaoapaaGreatDoor
open Go.RowKit Go.Lib Go.Proofs

/-- The code of heading i of a list. -/
def codeAt (hs : List Head) (i : Nat) : ByteArray := match hs[i]? with
  | some g => g.1
  | none => ⟨#[]⟩
theorem codeAt_eq {hs : List Head} {i : Nat} (h : i < hs.length) : codeAt hs i = hs[i].1 := by unfold codeAt; rw [List.getElem?_eq_getElem h]

/-- The first error that applies to heading i of a list. -/
def headFault (hs : List Head) (i : Nat) : Int :=
  match hs[i]? with
  | none => 0
  | some h =>
    if isCodeB h.1 = false then 5
    else if nameB h.2 = false then 4
    else if 0 < i ∧ (0 : Int) ≤ cmpCode (codeAt hs (i - 1)) h.1 then 8
    else if hasParentB hs h.1 = false then 6
    else 0

theorem row_head {w : World} {b o : Nat} {hs : List Head} (hc : ∀ j, j < hs.length * 2 → w.cell? ⟨b, o + j, none⟩ = (cellsH hs)[j]?) {k : Nat} (hk : k < hs.length) :
    w.cell? ⟨b, o + k * 2, none⟩ = some (.string hs[k].1) ∧ w.cell? ⟨b, o + k * 2 + 1, none⟩ = some (.string hs[k].2) := by
  obtain ⟨g1, g2⟩ := cellsH_get hs k hk
  exact ⟨by rw [hc (k * 2) (by omega), g1], by rw [Nat.add_assoc, hc (k * 2 + 1) (by omega), g2]⟩

set_option maxRecDepth 100000 in
set_option maxHeartbeats 4000000 in
theorem clheadingFault_any (hs : List Head) (v : Value) (i : Nat) (w : World) (hL : Lay w) (hr : RowG w v hs.length 2 (cellsH hs)) (hlen : hs.length ≤ 1000000) (hok : HeadsOk hs) (hi : i < hs.length) :
    Calls Tryz.prog 135 #[v, .int .i64 i] w fun e w' => e = .returned (.int .i64 (headFault hs i)) ∧ Below w.heap.size w w' := by
  have hr0 := hr
  obtain ⟨_, ao, cap, rfl, hcap, hc⟩ := hr0
  rcases hc with hc | ⟨b, o, rfl, hb, hc⟩
  · omega
  obtain ⟨c1, c2⟩ := row_head hc hi
  obtain ⟨k1, k2⟩ := hok hs[i] (List.getElem_mem hi)
  obtain ⟨x, hx⟩ : ∃ x, x = hs[i] := ⟨_, rfl⟩
  have hf : headFault hs i = if isCodeB x.1 = false then 5
    else if nameB x.2 = false then 4
    else if 0 < i ∧ (0 : Int) ≤ cmpCode (codeAt hs (i - 1)) x.1 then 8
    else if hasParentB hs x.1 = false then 6
    else 0 := by unfold headFault; rw [List.getElem?_eq_getElem hi, ← hx]
  rw [← hx] at c1 c2 k1 k2
  obtain ⟨c, d⟩ := x
  simp only at c1 c2 k1 k2 hf
  rw [hf]
  have hLa : ∀ o, Lay (w.alloc o) := fun o => hL.below (below_alloc w o) (Nat.le_refl _)
  have hLb : ∀ W, Below w.heap.size w W → Lay W := fun W h => hL.below h (Nat.le_refl _)
  have HCODE := Lib.hid (fun o => clisCode_any c (w.alloc o) (hLa o) k1)
  have HNAME := Lib.hid (fun W => clisName_any d W k2)
  have HPAR := Lib.hid (fun W (h : Below w.heap.size w W) => clhasParent_any hs _ c W (hLb W h) (hr.below h) hlen k1)
  have hstep : ∀ (W : World), Below (w.alloc (.cells #[.string c, .string d] 54)).heap.size (w.alloc (.cells #[.string c, .string d] 54)) W → Below w.heap.size w W ∧ W.cell? ⟨w.heap.size, 0, none⟩ = some (.string c) ∧ W.cell? ⟨w.heap.size, 1, none⟩ = some (.string d) := fun W hW =>
    ⟨(below_alloc w _).trans (hW.mono (below_alloc w _).size), by rw [hW.cell (p := ⟨w.heap.size, 0, none⟩) (by simp)]; simp, by rw [hW.cell (p := ⟨w.heap.size, 1, none⟩) (by simp)]; simp⟩
  have HSTEP := Lib.hid hstep
  have hi0 : (i : Int) < (hs.length : Int) := by omega
  generalize hasParentB hs c = pr at *
  cases hq : isCodeB c with
  | false =>
    rw [hq] at HCODE
    rw [if_pos rfl]
    clear hq hf hx hL hr hc hLa hLb hok hstep
    go_enter Tryz.func135, Tryz.ntmps135
    go_wp2_with fail
    refine (HCODE.out _).mono ?_
    rintro e w1 ⟨rfl, hb1⟩
    obtain ⟨q1, q2, q3⟩ := HSTEP.out _ hb1
    go_wp2
    go_ret
    exact ⟨rfl, q1⟩
  | true =>
    rw [hq] at HCODE
    rw [if_neg (by decide)]
    cases hn : nameB d with
    | false =>
      rw [hn] at HNAME
      rw [if_pos rfl]
      clear hq hf hx hL hr hc hLa hLb hok hn hstep
      go_enter Tryz.func135, Tryz.ntmps135
      go_wp2_with fail
      refine (HCODE.out _).mono ?_
      rintro e w1 ⟨rfl, hb1⟩
      obtain ⟨q1, q2, q3⟩ := HSTEP.out _ hb1
      have HB1 := Lib.hid hb1
      clear hb1
      go_wp2_with fail
      refine (HNAME.out _).mono ?_
      rintro e w2 ⟨rfl, hb2⟩
      have hb3 := q1.trans (hb2.mono q1.size)
      go_wp2
      go_ret
      exact ⟨rfl, hb3⟩
    | true =>
      rw [hn] at HNAME
      rw [if_neg (by decide)]
      by_cases hz : i = 0
      · subst hz
        simp only [Nat.zero_mul, Nat.add_zero] at c1 c2
        rw [if_neg (fun h => absurd h.1 (Nat.lt_irrefl _))]
        clear hq hf hx hL hr hc hLa hLb hok hn hstep
        go_enter Tryz.func135, Tryz.ntmps135
        go_wp2_with fail
        refine (HCODE.out _).mono ?_
        rintro e w1 ⟨rfl, hb1⟩
        obtain ⟨q1, q2, q3⟩ := HSTEP.out _ hb1
        have HB1 := Lib.hid hb1
        clear hb1
        go_wp2_with fail
        refine (HNAME.out _).mono ?_
        rintro e w2 ⟨rfl, hb2⟩
        obtain ⟨p1, p2, p3⟩ := HSTEP.out _ (HB1.out.trans (hb2.mono HB1.out.size))
        clear hb2 q1 q2 q3 HB1
        go_wp2
        go_quiet (fail)
        cases pr with
        | true =>
          go_wp2_with fail
          refine (HPAR.out _ (below_drewN p1 _)).mono ?_
          rintro e w3 ⟨rfl, hb3⟩
          have hb4 := (below_drewN p1 _).trans (hb3.mono p1.size)
          go_wp2
          go_ret
          exact ⟨rfl, hb4⟩
        | false =>
          go_wp2_with fail
          refine (HPAR.out _ (below_drewN p1 _)).mono ?_
          rintro e w3 ⟨rfl, hb3⟩
          have hb4 := (below_drewN p1 _).trans (hb3.mono p1.size)
          go_wp2
          go_ret
          exact ⟨rfl, hb4⟩
      · have hi1 : i - 1 < hs.length := by omega
        obtain ⟨d1, _⟩ := row_head hc hi1
        obtain ⟨k3, _⟩ := hok hs[i - 1] (List.getElem_mem hi1)
        rw [← codeAt_eq hi1] at d1 k3
        generalize codeAt hs (i - 1) = c' at *
        have HCMP := Lib.hid (fun W (h : Below w.heap.size w W) => clCompare_any c' c W (hLb W h) k3 k1)
        generalize cmpCode c' c = m at *
        have hipos : 0 < i := by omega
        obtain ⟨j, rfl⟩ : ∃ j, i = j + 1 := ⟨i - 1, by omega⟩
        simp only [Nat.add_sub_cancel] at d1
        have hbw := hb
        obtain ⟨r, hres⟩ : ∃ r : Int, (if 0 < j + 1 ∧ (0 : Int) ≤ m then 8 else if pr = false then 6 else 0) = r := ⟨_, rfl⟩
        rw [hres]
        have HRES := Lib.hid hres
        clear hres
        clear hq hf hx hL hr hc hLa hLb hok hn hstep
        have d1' : ∀ W, Below w.heap.size w W → W.cell? ⟨b, o + j * 2, none⟩ = some (.string c') := fun W hW => (hW.cell (p := ⟨b, o + j * 2, none⟩) hbw).trans d1
        have HD1 := Lib.hid d1'
        clear d1 d1'
        go_enter Tryz.func135, Tryz.ntmps135
        go_wp2_with fail
        refine (HCODE.out _).mono ?_
        rintro e w1 ⟨rfl, hb1⟩
        obtain ⟨q1, q2, q3⟩ := HSTEP.out _ hb1
        have HB1 := Lib.hid hb1
        clear hb1
        go_wp2_with fail
        refine (HNAME.out _).mono ?_
        rintro e w2 ⟨rfl, hb2⟩
        obtain ⟨p1, p2, p3⟩ := HSTEP.out _ (HB1.out.trans (hb2.mono HB1.out.size))
        have d2 := HD1.out _ p1
        clear hb2 q1 q2 q3 HB1
        go_wp2
        refine wp_region_still_tail 11 (by kernel_rfl) (by kernel_rfl) ?_
        simp only [List.take_succ_cons, List.take_zero, List.drop_succ_cons, List.drop_zero]
        have hj0 : (0 : Int) ≤ (j : Int) := by omega
        have hj1 : (j : Int) < (hs.length : Int) := by omega
        have hwr : IntKind.i64.wrap (j : Int) = j := IntWalk.i64_in _ (by omega)
        repeat still_step
        refine wpStill_nil ?_
        change wpList _ _ _ _ _ w2.drew
        clear hwr
        have hbd : Below w.heap.size w w2.drew := ⟨p1.os, p1.tape, p1.output, p1.size, p1.block⟩
        have e2 : w2.drew.cell? ⟨w.heap.size, 0, none⟩ = some (.string c) := p2
        generalize w2.drew = w3 at *
        clear p1 p2 p3 d2
        by_cases hm : 0 ≤ m
        · have hr8 : r = 8 := by rw [← HRES.out, if_pos ⟨by omega, hm⟩]
          subst hr8
          go_wp2_with fail
          refine (HCMP.out _ hbd).mono ?_
          rintro e w4 ⟨rfl, hb4⟩
          have hb5 := hbd.trans (hb4.mono hbd.size)
          go_wp2
          go_ret
          exact ⟨rfl, hb5⟩
        · have hres2 : r = if pr = false then 6 else 0 := by rw [← HRES.out, if_neg (fun h => hm h.2)]
          have hm2 : m < 0 := by omega
          have e3 : ∀ W, Below w3.heap.size w3 W → W.cell? ⟨w.heap.size, 0, none⟩ = some (.string c) := fun W hW => (hW.cell (p := ⟨w.heap.size, 0, none⟩) (cell_lt e2)).trans e2
          have HE3 := Lib.hid e3
          clear e3
          cases pr with
          | true =>
            rw [if_neg (by decide)] at hres2
            subst hres2
            go_wp2_with fail
            refine (HCMP.out _ hbd).mono ?_
            rintro e w4 ⟨rfl, hb4⟩
            have hb5 := hbd.trans (hb4.mono hbd.size)
            have e4 := HE3.out _ hb4
            clear hb4
            go_wp2_with fail
            refine (HPAR.out _ hb5).mono ?_
            rintro e w5 ⟨rfl, hb6⟩
            have hb7 := hb5.trans (hb6.mono hb5.size)
            go_wp2
            go_ret
            exact ⟨rfl, hb7⟩
          | false =>
            rw [if_pos rfl] at hres2
            subst hres2
            go_wp2_with fail
            refine (HCMP.out _ hbd).mono ?_
            rintro e w4 ⟨rfl, hb4⟩
            have hb5 := hbd.trans (hb4.mono hbd.size)
            have e4 := HE3.out _ hb4
            clear hb4
            go_wp2_with fail
            refine (HPAR.out _ hb5).mono ?_
            rintro e w5 ⟨rfl, hb6⟩
            have hb7 := hb5.trans (hb6.mono hb5.size)
            go_wp2
            go_ret
            exact ⟨rfl, hb7⟩

/-- The first error that applies to a list of headings, and the number of its heading. -/
def faultOf (hs : List Head) : Int × Int :=
  if 60 < hs.length then (0, 3) else match (List.range hs.length).find? fun i => decide (headFault hs i ≠ 0) with
    | some i => ((i : Int) + 1, headFault hs i)
    | none => (0, 0)

theorem faultOf_hit {hs : List Head} {k : Nat} (hn : ¬ 60 < hs.length) (hk : k < hs.length) (h : headFault hs k ≠ 0) (hall : ∀ i, i < k → headFault hs i = 0) : faultOf hs = ((k : Int) + 1, headFault hs k) := by
  unfold faultOf
  rw [if_neg hn]
  have : (List.range hs.length).find? (fun i => decide (headFault hs i ≠ 0)) = some k := by
    rw [List.find?_eq_some_iff_append]
    refine ⟨by simpa using h, List.range k, (List.range (hs.length - k - 1)).map (· + (k + 1)), ?_, ?_⟩
    · apply List.ext_getElem
      · simp; omega
      · intro i h1 h2
        by_cases hik : i < k
        · rw [List.getElem_append_left (by simpa using hik)]; simp
        · rw [List.getElem_append_right (by simpa using hik)]
          simp only [List.length_range, List.getElem_range]
          rw [List.getElem_cons]
          split
          · omega
          · simp; omega
    · intro i hi
      have := hall i (by simpa using hi)
      simp [this]
  rw [this]

theorem faultOf_none {hs : List Head} (hn : ¬ 60 < hs.length) (hall : ∀ i, i < hs.length → headFault hs i = 0) : faultOf hs = (0, 0) := by
  unfold faultOf
  rw [if_neg hn]
  have : (List.range hs.length).find? (fun i => decide (headFault hs i ≠ 0)) = none := by
    rw [List.find?_eq_none]
    intro i hi
    have := hall i (by simpa using hi)
    simp [this]
  rw [this]

set_option maxRecDepth 100000 in
set_option maxHeartbeats 4000000 in
theorem clfault_any (hs : List Head) (v : Value) (w : World) (hL : Lay w) (hr : RowG w v hs.length 2 (cellsH hs)) (hlen : hs.length ≤ 1000000) (hok : HeadsOk hs) :
    Calls Tryz.prog 122 #[v] w fun e w' => e = .returned (.tuple #[.int .i64 (faultOf hs).1, .int .i64 (faultOf hs).2]) ∧ Below w.heap.size w w' := by
  have hr0 := hr
  obtain ⟨_, ao, cap, rfl, hcap, _⟩ := hr0
  obtain ⟨x, y, hxy⟩ : ∃ x y, faultOf hs = (x, y) := ⟨_, _, rfl⟩
  rw [hxy]
  have HXY := Lib.hid hxy
  obtain ⟨n, hn⟩ : ∃ n, n = hs.length := ⟨_, rfl⟩
  have HF := Lib.hid (fun W i (h : Below w.heap.size w W) (hi : i < hs.length) => clheadingFault_any hs _ i W (hL.below h (Nat.le_refl _)) (hr.below h) hlen hok hi)
  rw [← hn] at HF hlen hcap ⊢
  have HN := Lib.hid hn
  clear hxy hL hr hok hn
  by_cases h60 : 60 < n
  · have hf : faultOf hs = (0, 3) := by unfold faultOf; rw [if_pos (by rw [← HN.out]; exact h60)]
    rw [HXY.out] at hf
    simp only [Prod.mk.injEq] at hf
    obtain ⟨rfl, rfl⟩ := hf
    have h60' : (60 : Int) < (n : Int) := by omega
    go_enter Tryz.func122, Tryz.ntmps122
    go_wp2
    go_ret2
    exact ⟨rfl, Below.refl _ _⟩
  · have h60' : (n : Int) ≤ 60 := by omega
    go_enter Tryz.func122, Tryz.ntmps122
    go_wp2
    go_loopw [11] (fun i wr => ∃ k : Nat, i = .int .i64 k ∧ k ≤ n ∧ Hid (∀ j, j < k → headFault hs j = 0) ∧ Hid (Below w.heap.size w wr)) (fun i _ => n - (RowKit.intOf i).toNat)
    case atStart => exact ⟨0, rfl, by omega, Lib.hid (fun j hj => by omega), Lib.hid (Below.refl _ _)⟩
    case round =>
      obtain ⟨k, rfl, hkn, HALL, HB⟩ := hrel
      by_cases hlt : k < n
      · have hcall := HF.out wr k HB.out hlt
        obtain ⟨z, hz⟩ : ∃ z, headFault hs k = z := ⟨_, rfl⟩
        rw [hz] at hcall
        have HCALL := Lib.hid hcall
        by_cases h0 : z = 0
        · subst h0
          have HZ := Lib.hid hz
          clear hcall hz
          go_wp2_with fail
          refine (HCALL.out).mono ?_
          rintro e w1 ⟨rfl, hb1⟩
          have HB1 := Lib.hid hb1
          clear hb1
          go_wp2
          go_roundw
          case rel => exact ⟨k + 1, by go_num, by omega, Lib.hid (fun j hj => by
            by_cases hjk : j = k
            · rw [hjk]; exact HZ.out
            · exact HALL.out j (by omega)), Lib.hid (HB.out.trans (HB1.out.mono HB.out.size))⟩
          case measure => simp [RowKit.intOf]; omega
        · have hf := faultOf_hit (by rw [← HN.out]; exact h60) (by rw [← HN.out]; exact hlt) (by rw [hz]; exact h0) HALL.out
          rw [HXY.out, hz] at hf
          simp only [Prod.mk.injEq] at hf
          obtain ⟨rfl, rfl⟩ := hf
          have hne : (y == 0) = false := by rw [beq_eq_false_iff_ne]; exact h0
          have hne2 : (y != 0) = true := by rw [bne_iff_ne]; exact h0
          clear hcall hz
          go_wp2_with fail
          refine (HCALL.out).mono ?_
          rintro e w1 ⟨rfl, hb1⟩
          have hb2 := HB.out.trans (hb1.mono HB.out.size)
          clear hb1
          go_wp2
          go_ret2
          exact ⟨rfl, hb2⟩
      · obtain rfl : k = n := by omega
        have hge : (k : Int) ≤ (k : Int) := Int.le_refl _
        have hf := faultOf_none (by rw [← HN.out]; exact h60) (fun j hj => HALL.out j (by rw [HN.out]; exact hj))
        rw [HXY.out] at hf
        simp only [Prod.mk.injEq] at hf
        obtain ⟨rfl, rfl⟩ := hf
        go_wp2
        go_ret2
        exact ⟨rfl, HB.out⟩

set_option maxHeartbeats 1000000 in
theorem clValid_any (hs : List Head) (v : Value) (w : World) (hL : Lay w) (hr : RowG w v hs.length 2 (cellsH hs)) (hlen : hs.length ≤ 1000000) (hok : HeadsOk hs) :
    Calls Tryz.prog 104 #[v] w fun e w' => e = .returned (.int .i64 (faultOf hs).2) ∧ Below w.heap.size w w' := by
  have HF := Lib.hid (clfault_any hs v w hL hr hlen hok)
  clear hL hr
  go_enter Tryz.func104, Tryz.ntmps104
  go_wp2_with fail
  refine (HF.out).mono ?_
  rintro e w1 ⟨rfl, hb⟩
  go_wp2
  go_ret
  exact ⟨rfl, hb⟩

end Go.Proofs.YtdedihdkkaoapaaGreatDoor

/- Plain mathematics of codes: the text of a code, its numbers and its parent, the order of codes and who lies under whom; of no function of the program; no condition. -/
namespace Go.Proofs.YtdedihdkkaoapaaGreatDoor
open Go.RowKit Go.Lib Go.Proofs

/-- From one to four numbers from 1 to 99. -/
def GoodN (ns : List Nat) : Prop := ns ≠ [] ∧ ns.length ≤ 4 ∧ ∀ n ∈ ns, 1 ≤ n ∧ n ≤ 99

/-- The text of some numbers. -/
def codeT (ns : List Nat) : ByteArray := txt (joinL 46 (ns.map decDigits))

theorem no_point {n : Nat} (h : n ≤ 99) : (46 : UInt8) ∉ decDigits n := fun hm => by
  have := dec_digits n (by omega) 46 hm
  revert this; decide

theorem numsB_digits : ∀ (ns : List Nat), (∀ n ∈ ns, 1 ≤ n ∧ n ≤ 99) → numsB ((ns.map decDigits).map txt) = some ns
  | [], _ => rfl
  | n :: ns, h => by
    have h1 := h n (by simp)
    have h2 : numW (decDigits n) = some n := numW_some.2 ⟨h1, rfl⟩
    have ih := numsB_digits ns fun m hm => h m (by simp [hm])
    simp only [List.map_cons, numsB, txt_list, h2, ih]

theorem words_codeT {ns : List Nat} (h : GoodN ns) : wordsL 46 (codeT ns).data.toList = ns.map decDigits := by
  unfold codeT
  rw [txt_list]
  refine words_join 46 _ (by simpa using h.1) fun w hw => ?_
  obtain ⟨n, hn, rfl⟩ := List.mem_map.1 hw
  exact no_point (h.2.2 n hn).2

theorem partsN_codeT {ns : List Nat} (h : GoodN ns) : partsN (codeT ns) = ns := by
  unfold partsN wordsB
  rw [words_codeT h, numsB_digits ns h.2.2]
  exact if_pos h.2.1

theorem numsB_inv : ∀ {l : List (List UInt8)} {vs : List Nat}, numsB (l.map txt) = some vs → l = vs.map decDigits ∧ ∀ n ∈ vs, 1 ≤ n ∧ n ≤ 99
  | [], vs, h => by simp [numsB] at h; subst h; simp
  | x :: l, vs, h => by
    simp only [List.map_cons, numsB, txt_list] at h
    cases hx : numW x with
    | none => rw [hx] at h; cases h
    | some v =>
      cases hl : numsB (l.map txt) with
      | none => rw [hx, hl] at h; cases h
      | some us =>
        rw [hx, hl] at h
        injection h with h
        subst h
        obtain ⟨h1, h2⟩ := numsB_inv hl
        obtain ⟨h3, h4⟩ := numW_some.1 hx
        refine ⟨by rw [List.map_cons, h4, ← h1], fun n hn => ?_⟩
        rcases List.mem_cons.1 hn with rfl | hn
        · exact h3
        · exact h2 n hn

theorem partsN_inv {s : ByteArray} (h : partsN s ≠ []) : GoodN (partsN s) ∧ s = codeT (partsN s) := by
  have hd : ∃ vs, numsB (wordsB 46 s) = some vs ∧ vs.length ≤ 4 ∧ partsN s = vs := by
    unfold partsN at h ⊢
    cases hn : numsB (wordsB 46 s) with
    | none => rw [hn] at h; exact absurd rfl h
    | some vs =>
      rw [hn] at h
      by_cases hl : vs.length ≤ 4
      · exact ⟨vs, rfl, hl, if_pos hl⟩
      · exact absurd (if_neg hl) h
  obtain ⟨vs, h1, h2, h3⟩ := hd
  obtain ⟨h4, h5⟩ := numsB_inv h1
  rw [h3] at h ⊢
  refine ⟨⟨h, h2, h5⟩, ?_⟩
  unfold codeT
  rw [← h4, joinL_words, txt_back]

theorem isCodeB_codeT {ns : List Nat} (h : GoodN ns) : isCodeB (codeT ns) = true := by
  unfold isCodeB
  rw [partsN_codeT h]
  exact decide_eq_true h.1

theorem isCodeB_inv {s : ByteArray} (h : isCodeB s = true) : ∃ ns, GoodN ns ∧ s = codeT ns := by
  unfold isCodeB at h
  exact ⟨_, partsN_inv (of_decide_eq_true h)⟩

theorem codeT_inj {a b : List Nat} (ha : GoodN a) (hb : GoodN b) (h : codeT a = codeT b) : a = b := by
  rw [← partsN_codeT ha, h, partsN_codeT hb]

theorem codeT_size {ns : List Nat} (h : GoodN ns) : (codeT ns).size ≤ 11 := by
  obtain ⟨h1, h2, h3⟩ := h
  have hl : ∀ n ∈ ns, (decDigits n).length ≤ 2 := fun n hn => by
    have := h3 n hn
    by_cases h10 : n < 10
    · rw [dec_one n h10]; simp
    · rw [dec_two n (by omega) (by omega)]; simp
  unfold codeT
  rw [txt_size]
  match ns, h1, h2, hl with
  | [a], _, _, hl => have := hl a (by simp); simp [joinL]; omega
  | [a, b], _, _, hl => have := hl a (by simp); have := hl b (by simp); simp [joinL]; omega
  | [a, b, c], _, _, hl => have := hl a (by simp); have := hl b (by simp); have := hl c (by simp); simp [joinL]; omega
  | [a, b, c, d], _, _, hl => have := hl a (by simp); have := hl b (by simp); have := hl c (by simp); have := hl d (by simp); simp [joinL]; omega
  | _ :: _ :: _ :: _ :: _ :: _, _, h2, _ => simp at h2

theorem joinL_snoc (c : UInt8) (x : List UInt8) : ∀ (l : List (List UInt8)), l ≠ [] → joinL c (l ++ [x]) = joinL c l ++ c :: x
  | [], h => absurd rfl h
  | [a], _ => rfl
  | a :: b :: t, _ => by
    have ih := joinL_snoc c x (b :: t) (by simp)
    show a ++ c :: joinL c ((b :: t) ++ [x]) = (a ++ c :: joinL c (b :: t)) ++ c :: x
    rw [ih]; simp

/-- Where the last point of a text stands. -/
theorem last_point {s : ByteArray} {a d : List UInt8} (hs : s.data.toList = a ++ 46 :: d) (hd : (46 : UInt8) ∉ d) : lastIndexByte s 46 = a.length := by
  have hsz : s.size = a.length + 1 + d.length := by rw [size_list, hs]; simp; omega
  have hget : ∀ j, j < s.size → s.data[j]! = (s.data.toList.getD j 0) := fun j hj => by
    have : j < s.data.size := hj
    rw [getElem!_pos s.data j this]
    simp [List.getD, Array.getElem?_eq_getElem this]
  rcases lastIndexByte_spec s 46 with ⟨_, h⟩ | ⟨i, hi, h1, h2, h3⟩
  · have := h a.length (by omega)
    rw [hget _ (by omega), hs] at this
    simp [List.getD] at this
  · rw [h1]
    by_cases hlt : i < a.length
    · have := h3 a.length hlt (by omega)
      rw [hget _ (by omega), hs] at this
      simp [List.getD] at this
    · by_cases hgt : a.length < i
      · exfalso
        rw [hget i hi, hs] at h2
        have e : (a ++ 46 :: d).getD i 0 = d.getD (i - a.length - 1) 0 := by
          simp only [List.getD]
          rw [List.getElem?_append_right (by omega), show i - a.length = (i - a.length - 1) + 1 by omega, List.getElem?_cons_succ]
          simp
        rw [e] at h2
        have hl : i - a.length - 1 < d.length := by omega
        rw [List.getD, List.getElem?_eq_getElem hl] at h2
        simp only [Option.getD_some] at h2
        have : d[i - a.length - 1] = 46 := UInt8.toNat_inj.1 (by have e46 : (46 : UInt8).toNat = 46 := rfl; omega)
        exact hd (this ▸ List.getElem_mem hl)
      · omega

theorem no_point_at {s : ByteArray} (h : (46 : UInt8) ∉ s.data.toList) : lastIndexByte s 46 = -1 := by
  rcases lastIndexByte_spec s 46 with ⟨h1, _⟩ | ⟨i, hi, h1, h2, h3⟩
  · exact h1
  · exfalso
    have hl : i < s.data.size := hi
    rw [getElem!_pos s.data i hl] at h2
    have : s.data[i] = 46 := UInt8.toNat_inj.1 (by have e46 : (46 : UInt8).toNat = 46 := rfl; omega)
    exact h (this ▸ by simp)

theorem parentB_codeT {ns : List Nat} (h : GoodN ns) : parentB (codeT ns) = codeT ns.dropLast := by
  obtain ⟨h1, h2, h3⟩ := h
  obtain ⟨x, hx⟩ : ∃ x, ns = ns.dropLast ++ [x] := ⟨ns.getLast h1, (List.dropLast_concat_getLast h1).symm⟩
  generalize hl : ns.dropLast = l at hx ⊢
  clear hl
  subst hx
  have hx99 := (h3 x (by simp)).2
  unfold parentB
  by_cases hnil : l = []
  · subst hnil
    have hno : (46 : UInt8) ∉ (codeT [x]).data.toList := by
      unfold codeT
      rw [txt_list]
      exact no_point hx99
    show (codeT [x]).extract 0 (lastIndexByte (codeT [x]) 46).toNat = _
    rw [no_point_at hno, extract_front]
    rfl
  · have hdata : (codeT (l ++ [x])).data.toList = joinL 46 (l.map decDigits) ++ 46 :: decDigits x := by
      unfold codeT
      rw [txt_list, List.map_append]
      exact joinL_snoc 46 _ _ (by simpa using hnil)
    rw [last_point hdata (no_point hx99), extract_front, hdata]
    unfold codeT
    rw [Int.toNat_natCast, List.take_left]

theorem codeT_nil : codeT [] = ⟨#[]⟩ := rfl
theorem codeT_ne {ns : List Nat} (h : GoodN ns) : codeT ns ≠ ⟨#[]⟩ := fun e => by
  have := partsN_codeT h
  rw [e] at this
  have h0 : partsN ⟨#[]⟩ = [] := by
    unfold partsN wordsB
    have : numW ([] : List UInt8) = none := by
      cases hn : numW ([] : List UInt8) with
      | none => rfl
      | some v =>
        have := (numW_some.1 hn)
        have hl : (decDigits v).length = 0 := by rw [this.2]; rfl
        by_cases h10 : v < 10
        · rw [dec_one v h10] at hl; simp at hl
        · rw [dec_two v (by omega) (by omega)] at hl; simp at hl
    simp [wordsL, numsB, txt_list, this]
  rw [h0] at this
  exact h.1 this.symm

theorem partsN_empty : partsN ⟨#[]⟩ = [] := by
  by_cases h : partsN ⟨#[]⟩ = []
  · exact h
  · obtain ⟨h1, h2⟩ := partsN_inv h
    exact absurd h2.symm (codeT_ne h1)

theorem cmpCode_codeT {a b : List Nat} (ha : GoodN a) (hb : GoodN b) : cmpCode (codeT a) (codeT b) = cmpL (asInts a) (asInts b) := by
  unfold cmpCode
  rw [partsN_codeT ha, partsN_codeT hb, if_neg (fun h => ha.1 h.1)]

theorem underB_codeT {a b : List Nat} (ha : GoodN a) (hb : GoodN b) : underB (codeT a) (codeT b) = true ↔ b <+: a := by
  rw [underB_iff, partsN_codeT ha, partsN_codeT hb]
  exact ⟨fun h => h.2, fun h => ⟨hb.1, h⟩⟩

theorem coversB_codeT {a b : List Nat} (ha : GoodN a) (hb : GoodN b) : coversB (codeT b) (codeT a) = decide (b <+: a) := by
  unfold coversB
  rw [decide_eq_false (codeT_ne hb), Bool.false_or, Bool.eq_iff_iff, underB_codeT ha hb]
  simp
theorem coversB_all (a : ByteArray) : coversB ⟨#[]⟩ a = true := by simp [coversB]

theorem asInts_inj {x y : List Nat} (h : asInts x = asInts y) : x = y := by
  have := congrArg (List.map Int.toNat) h
  simpa [asInts, Function.comp_def] using this

end Go.Proofs.YtdedihdkkaoapaaGreatDoor

/- The contract of classification.Children: the codes of a list of which a code is the parent; for lists of up to 10^6 headings with texts of up to 10^6 bytes. -/
namespace Go.Proofs.YtdedihdkkaoapaaGreatDoor
open Go.RowKit Go.Lib Go.Proofs

/-- The codes of a list of which a code is the parent. -/
def childrenOf (hs : List Head) (code : ByteArray) : List ByteArray := (codesOf hs).filter fun c => !(!decide (parentB c = code))

theorem codesOf_sizes {hs : List Head} (hok : HeadsOk hs) : ∀ c ∈ codesOf hs, c.size ≤ 1000000 := by
  intro c hc
  obtain ⟨h, hh, rfl⟩ := List.mem_map.1 (List.mem_filter.1 hc).1
  exact (hok h hh).1

theorem ownBlock_cases {w : World} {base n size : Nat} {e : TypeId} {v : Value} {xs : List Value} (h : w.ownsRow base e size v n xs) : ∀ r, v.ownBlock = some r → base ≤ r := fun r hr => ownBlock_le h r hr

end Go.Proofs.YtdedihdkkaoapaaGreatDoor

/- A map from strings to bools that the call has made, read as a function: the laws of make, store, delete and look-up; for keys of up to 2^47 bytes. -/
namespace Go.Proofs.YtdedihdkkaoapaaGreatDoor
open Go.RowKit Go.Lib Go.Proofs Go.Maps

theorem keyS (s : ByteArray) (hs : s.size ≤ maxLen) : keyOf Tryz.prog 9 (.string s) = some (.string s.data.toList) := by
  simp [keyOf, mapKey, Tryz.underlying9, hs]

theorem plainB_inv {P : Program} {e : TypeId} (he : P.underlying e = some .bool) {v : Value} {z : DataW Unit × List MemPlace} (h : plainElem P e v = some z) : ∃ x, v = .bool x ∧ z = (.lit (.bool x), []) := by
  unfold plainElem at h
  rw [he] at h
  cases v <;> simp at h
  exact ⟨_, rfl, h.symm⟩

theorem keyLit (s : ByteArray) : WideAt.IsKeyLit (.string s.data.toList) := by simp [WideAt.IsKeyLit]

/-- Block b is a map of at most n entries that answers f. -/
def MapSB (w : World) (b n : Nat) (f : ByteArray → Bool) : Prop :=
  ∃ D : DataW Unit, w.ownsMap Tryz.prog 9 (plainElem Tryz.prog 4) b n D ∧ IsMap D ∧ ∀ s : ByteArray, D.atKey (.string s.data.toList) (.lit (.bool false)) = .lit (.bool (f s))

theorem MapSB.lt {w : World} {b n : Nat} {f : ByteArray → Bool} (h : MapSB w b n f) : b < w.heap.size := by obtain ⟨D, h1, _⟩ := h; exact h1.lt
theorem MapSB.kept {w w' : World} {b n : Nat} {f : ByteArray → Bool} {row : Option Nat} (h : MapSB w b n f) (hg : w.grownBy w' row) (hne : some b ≠ row) : MapSB w' b n f := by
  obtain ⟨D, h1, h2⟩ := h; exact ⟨D, h1.kept hg hne, h2⟩
theorem MapSB.made (w : World) : MapSB (w.alloc (.map #[] 0)) w.heap.size 0 fun _ => false :=
  ⟨.map [], World.ownsMap_made w _ _ _, isMap_empty, fun _ => rfl⟩
theorem MapSB.congr {w : World} {b n : Nat} {f g : ByteArray → Bool} (h : MapSB w b n f) (hfg : ∀ s, f s = g s) : MapSB w b n g := by
  obtain ⟨D, h1, h2, h3⟩ := h; exact ⟨D, h1, h2, fun s => by rw [h3, hfg]⟩

theorem data_ne {s t : ByteArray} (h : s ≠ t) : Lit.string s.data.toList ≠ Lit.string t.data.toList := fun e => h (bytes_ext (by injection e))

end Go.Proofs.YtdedihdkkaoapaaGreatDoor

/- The contract of classification.Leaves: the codes of a list that lie under another one, or all for "", and are the parent of none; for lists of up to 10^6 headings with texts of up to 10^6 bytes. -/
namespace Go.Proofs.YtdedihdkkaoapaaGreatDoor
open Go.RowKit Go.Lib Go.Proofs

/-- A text is in a list. -/
def hasB (x : ByteArray) (l : List ByteArray) : Bool := l.any fun y => decide (y = x)
theorem hasB_iff {x : ByteArray} {l : List ByteArray} : hasB x l = true ↔ x ∈ l := by unfold hasB; simp
theorem hasB_snoc (x y : ByteArray) (l : List ByteArray) : hasB x (l ++ [y]) = (hasB x l || decide (y = x)) := by unfold hasB; simp

/-- A code of a list is the parent of none. -/
def leftB (cs : List ByteArray) (c : ByteArray) : Bool := hasB c cs && !hasB c (cs.map parentB)

/-- The codes of a list that lie under top and are the parent of none. -/
def leavesOf (hs : List Head) (top : ByteArray) : List ByteArray := (codesOf hs).filter fun c => !(!leftB (codesOf hs) c || !coversB top c)

theorem hasB_take {cs : List ByteArray} {k : Nat} (hk : k < cs.length) (s : ByteArray) : (if s = cs[k] then true else hasB s (cs.take k)) = hasB s (cs.take (k + 1)) := by
  rw [List.take_succ_eq_append_getElem hk, hasB_snoc]
  by_cases h : s = cs[k]
  · rw [if_pos h, decide_eq_true h.symm, Bool.or_true]
  · rw [if_neg h, decide_eq_false (fun e => h e.symm), Bool.or_false]

theorem hasB_drop {cs : List ByteArray} {k : Nat} (hk : k < cs.length) (s : ByteArray) : (if s = parentB cs[k] then false else (hasB s cs && !hasB s ((cs.take k).map parentB))) = (hasB s cs && !hasB s ((cs.take (k + 1)).map parentB)) := by
  rw [List.take_succ_eq_append_getElem hk, List.map_append]
  show _ = (hasB s cs && !hasB s ((cs.take k).map parentB ++ [parentB cs[k]]))
  rw [hasB_snoc]
  by_cases h : s = parentB cs[k]
  · rw [if_pos h, decide_eq_true h.symm, Bool.or_true, Bool.not_true, Bool.and_false]
  · rw [if_neg h, decide_eq_false (fun e => h e.symm), Bool.or_false]

end Go.Proofs.YtdedihdkkaoapaaGreatDoor

/- The contract of treasurymake.Texts: whether two lists of texts are equal; for lists of up to 10^6 texts. -/
namespace Go.Proofs.YtdedihdkkaoapaaGreatDoor
open Go.RowKit Go.Lib Go.Proofs

theorem list_ext_take {α : Type} {a b : List α} (hl : a.length = b.length) (h : ∀ i (h1 : i < a.length) (h2 : i < b.length), a[i] = b[i]) : a = b := List.ext_getElem hl h

end Go.Proofs.YtdedihdkkaoapaaGreatDoor

/- The contract of treasurylaw03.awake: the example of the chapter holds, whatever the world; nothing that was there turns. -/
namespace Go.Proofs.YtdedihdkkaoapaaGreatDoor
open Go.RowKit Go.Lib Go.Proofs

theorem good1 {a : Nat} (h : 1 ≤ a ∧ a ≤ 99) : GoodN [a] := ⟨by simp, by simp, by simpa using h⟩
theorem good2 {a b : Nat} (h : 1 ≤ a ∧ a ≤ 99) (g : 1 ≤ b ∧ b ≤ 99) : GoodN [a, b] := ⟨by simp, by simp, by intro n hn; simp at hn; rcases hn with rfl | rfl <;> assumption⟩

theorem t1 : (⟨#[49]⟩ : ByteArray) = codeT [1] := by unfold codeT; simp [joinL, txt, dec_one 1 (by omega)]
theorem t3 : (⟨#[51]⟩ : ByteArray) = codeT [3] := by unfold codeT; simp [joinL, txt, dec_one 3 (by omega)]
theorem t30 : (⟨#[51, 48]⟩ : ByteArray) = codeT [30] := by unfold codeT; simp [joinL, txt, dec_two 30 (by omega) (by omega)]
theorem t39 : (⟨#[51, 46, 57]⟩ : ByteArray) = codeT [3, 9] := by unfold codeT; simp [joinL, txt, dec_one 3 (by omega), dec_one 9 (by omega)]
theorem t310 : (⟨#[51, 46, 49, 48]⟩ : ByteArray) = codeT [3, 10] := by unfold codeT; simp [joinL, txt, dec_one 3 (by omega), dec_two 10 (by omega) (by omega)]

/-- The list of the example. -/
def exHeads : List Head := [(⟨#[49]⟩, ⟨#[97]⟩), (⟨#[51]⟩, ⟨#[98]⟩), (⟨#[51, 46, 57]⟩, ⟨#[99]⟩), (⟨#[51, 46, 49, 48]⟩, ⟨#[100]⟩)]

theorem ex_ok : HeadsOk exHeads := by
  intro h hh
  simp only [exHeads, List.mem_cons, List.mem_nil_iff, or_false] at hh
  rcases hh with rfl | rfl | rfl | rfl <;> decide

theorem g1 : GoodN [1] := good1 (by omega)
theorem g3 : GoodN [3] := good1 (by omega)
theorem g30 : GoodN [30] := good1 (by omega)
theorem g39 : GoodN [3, 9] := good2 (by omega) (by omega)
theorem g310 : GoodN [3, 10] := good2 (by omega) (by omega)

theorem ex_cmp : cmpCode ⟨#[51, 46, 57]⟩ ⟨#[51, 46, 49, 48]⟩ = -1 := by rw [t39, t310, cmpCode_codeT g39 g310]; decide
theorem ex_under (a b : List Nat) (ha : GoodN a) (hb : GoodN b) (r : Bool) (h : decide (b <+: a) = r) : underB (codeT a) (codeT b) = r := by
  rw [← h, Bool.eq_iff_iff, underB_codeT ha hb]; simp
theorem ex_u1 : underB ⟨#[51, 46, 49, 48]⟩ ⟨#[51]⟩ = true := by rw [t310, t3]; exact ex_under _ _ g310 g3 _ (by decide)
theorem ex_u2 : underB ⟨#[51]⟩ ⟨#[51]⟩ = true := by rw [t3]; exact ex_under _ _ g3 g3 _ (by decide)
theorem ex_u3 : underB ⟨#[51, 48]⟩ ⟨#[51]⟩ = false := by rw [t30, t3]; exact ex_under _ _ g30 g3 _ (by decide)

theorem p1 : parentB ⟨#[49]⟩ = ⟨#[]⟩ := by rw [t1, parentB_codeT g1]; rfl
theorem p3 : parentB ⟨#[51]⟩ = ⟨#[]⟩ := by rw [t3, parentB_codeT g3]; rfl
theorem p39 : parentB ⟨#[51, 46, 57]⟩ = ⟨#[51]⟩ := by rw [t39, parentB_codeT g39, t3]; rfl
theorem p310 : parentB ⟨#[51, 46, 49, 48]⟩ = ⟨#[51]⟩ := by rw [t310, parentB_codeT g310, t3]; rfl
theorem i1 : isCodeB ⟨#[49]⟩ = true := by rw [t1]; exact isCodeB_codeT g1
theorem i3 : isCodeB ⟨#[51]⟩ = true := by rw [t3]; exact isCodeB_codeT g3
theorem i39 : isCodeB ⟨#[51, 46, 57]⟩ = true := by rw [t39]; exact isCodeB_codeT g39
theorem i310 : isCodeB ⟨#[51, 46, 49, 48]⟩ = true := by rw [t310]; exact isCodeB_codeT g310

theorem ex_codes : codesOf exHeads = [⟨#[49]⟩, ⟨#[51]⟩, ⟨#[51, 46, 57]⟩, ⟨#[51, 46, 49, 48]⟩] := by
  simp [codesOf, exHeads, i1, i3, i39, i310]

theorem ex_leaves : leavesOf exHeads ⟨#[]⟩ = [⟨#[49]⟩, ⟨#[51, 46, 57]⟩, ⟨#[51, 46, 49, 48]⟩] := by
  unfold leavesOf leftB
  rw [ex_codes]
  simp only [List.map_cons, List.map_nil, p1, p3, p39, p310, coversB_all]
  decide

theorem c13 : cmpCode ⟨#[49]⟩ ⟨#[51]⟩ = -1 := by rw [t1, t3, cmpCode_codeT g1 g3]; decide
theorem c339 : cmpCode ⟨#[51]⟩ ⟨#[51, 46, 57]⟩ = -1 := by rw [t3, t39, cmpCode_codeT g3 g39]; decide

theorem ex_valid : faultOf exHeads = (0, 0) := by
  refine faultOf_none (by decide) fun i hi => ?_
  have hh : i = 0 ∨ i = 1 ∨ i = 2 ∨ i = 3 := by simp [exHeads] at hi; omega
  have hpar : hasHeadB exHeads ⟨#[51]⟩ = true := by
    unfold hasHeadB
    rw [i3]
    decide
  rcases hh with rfl | rfl | rfl | rfl
  · simp [headFault, exHeads, i1, hasParentB, p1]
    decide
  · simp [headFault, exHeads, i3, hasParentB, p3, codeAt, c13]
    decide
  · simp only [headFault, exHeads, List.getElem?_cons_succ, List.getElem?_cons_zero, i39, codeAt, c339, hasParentB, p39]
    rw [show hasHeadB [(⟨#[49]⟩, ⟨#[97]⟩), (⟨#[51]⟩, ⟨#[98]⟩), (⟨#[51, 46, 57]⟩, ⟨#[99]⟩), (⟨#[51, 46, 49, 48]⟩, ⟨#[100]⟩)] ⟨#[51]⟩ = true from hpar]
    decide
  · simp only [headFault, exHeads, List.getElem?_cons_succ, List.getElem?_cons_zero, i310, codeAt, ex_cmp, hasParentB, p310]
    rw [show hasHeadB [(⟨#[49]⟩, ⟨#[97]⟩), (⟨#[51]⟩, ⟨#[98]⟩), (⟨#[51, 46, 57]⟩, ⟨#[99]⟩), (⟨#[51, 46, 49, 48]⟩, ⟨#[100]⟩)] ⟨#[51]⟩ = true from hpar]
    decide

/-- The example's list in memory. -/
def exWorld (w : World) : World := w.alloc (.cells #[.string ⟨#[49]⟩, .string ⟨#[97]⟩, .string ⟨#[51]⟩, .string ⟨#[98]⟩, .string ⟨#[51, 46, 57]⟩, .string ⟨#[99]⟩, .string ⟨#[51, 46, 49, 48]⟩, .string ⟨#[100]⟩] 54)

theorem ex_row (w : World) : RowG (exWorld w) (.slice (some ⟨w.heap.size, 0, none⟩) 4 4) exHeads.length 2 (cellsH exHeads) :=
  RowG.owns (World.ownsRow_lit (base := w.heap.size) (size := 2) (e := 54) w _ 4 (Nat.le_refl _) (by decide) rfl)

theorem three_row (w : World) (a b c : ByteArray) (T : TypeId) : RowG (w.alloc (.cells #[.string a, .string b, .string c] T)) (.slice (some ⟨w.heap.size, 0, none⟩) 3 3) [a, b, c].length 1 (cellsS [a, b, c]) :=
  RowG.owns (World.ownsRow_lit (base := w.heap.size) (size := 1) (e := T) w _ 3 (Nat.le_refl _) (by decide) rfl)

end Go.Proofs.YtdedihdkkaoapaaGreatDoor

/- Contracts of article.take: a word is put into an article as a part of a form; for words of up to 10^6 bytes. -/
namespace Go.Proofs.YtdedihdkkaoapaaGreatDoor
open Go.RowKit Go.Lib Go.Proofs

/-- The article in block b. -/
def ArtAt (W : World) (b : Nat) (a : Art) : Prop := W.heap[b]? = some (.cells a.cells 24 (0, 0))
theorem ArtAt.below {W W' : World} {b : Nat} {a : Art} (h : ArtAt W b a) (hb : Below W.heap.size W W') : ArtAt W' b a := (hb.block b (Array.getElem?_eq_some_iff.1 h).1).trans h
theorem ArtAt.lt {W : World} {b : Nat} {a : Art} (h : ArtAt W b a) : b < W.heap.size := (Array.getElem?_eq_some_iff.1 h).1
theorem art_cell {W : World} {b : Nat} {cs : Array Value} {T : TypeId} (h : W.heap[b]? = some (.cells cs T (0, 0))) (j : Nat) : W.cell? ⟨b, j, none⟩ = cs[j]? := by
  simp [World.cell?, h]
theorem art_free {W : World} {b : Nat} {cs : Array Value} {T : TypeId} (h : W.heap[b]? = some (.cells cs T (0, 0))) (j : Nat) : W.frozen? ⟨b, j, none⟩ = false := by
  simp [World.frozen?, h]
theorem art_set {W : World} {b : Nat} {cs : Array Value} {T : TypeId} (h : W.heap[b]? = some (.cells cs T (0, 0))) (j : Nat) (v : Value) : (W.setCell ⟨b, j, none⟩ v).heap[b]? = some (.cells (cs.setIfInBounds j v) T (0, 0)) := by
  simp [World.setCell, Array.getElem?_modify, h]

/-- What take hands back. -/
def TakePost (w : World) (b : Nat) (r : Art × Bool) (e : Ending) (w' : World) : Prop := e = .returned (.bool r.2) ∧ ArtAt w' b r.1 ∧ w.grownBy w' (some b)

theorem grown_set {w w1 : World} {b : Nat} (h : Below w.heap.size w w1) (j : Nat) (v : Value) : w.grownBy (w1.setCell ⟨b, j, none⟩ v) (some b) :=
  grownBy_trans (grownBy_below h) ⟨rfl, rfl, rfl, by rw [World.size_setCell]; exact Nat.le_refl _, fun k _ hne => Below.heap_setCell _ _ _ _ (fun e => hne (by rw [e]))⟩

set_option maxHeartbeats 1000000 in
theorem arisCode_any (s : ByteArray) (w : World) (hL : Lay w) (hs : s.size ≤ 1000000) : Calls Tryz.prog 82 #[.string s] w fun e w' => e = .returned (.bool (isCodeB s)) ∧ Below w.heap.size w w' := by
  have HP := Lib.hid (clParts_any s w hL hs)
  unfold isCodeB
  obtain ⟨ns, hns⟩ : ∃ ns, ns = partsN s := ⟨_, rfl⟩
  rw [← hns] at HP ⊢
  clear hns hL
  by_cases hn : ns = []
  · subst hn
    rw [decide_eq_false (by simp)]
    go_enter Tryz.func82, Tryz.ntmps82
    go_wp2_with fail
    refine (HP.out).mono ?_
    rintro e w1 ⟨v, rfl, ho, hb⟩
    obtain ⟨ao, cap, rfl, _, _⟩ := owns_gen ho
    clear ho
    go_wp2
    go_ret
    exact ⟨by simp, hb⟩
  · rw [decide_eq_true hn]
    have hl : (0 : Int) < (ns.length : Int) := by have := List.length_pos_iff.2 hn; omega
    have hl2 : 0 < ns.length := by omega
    go_enter Tryz.func82, Tryz.ntmps82
    go_wp2_with fail
    refine (HP.out).mono ?_
    rintro e w1 ⟨v, rfl, ho, hb⟩
    obtain ⟨ao, cap, rfl, _, _⟩ := owns_gen ho
    clear ho
    go_wp2
    go_ret
    exact ⟨by first | rfl | (simp; done) | simp [hn], hb⟩

theorem one_fault (s : ByteArray) : (faultOf [((⟨#[49]⟩ : ByteArray), s)]).2 = if nameB s = true then 0 else 4 := by
  have hc : isCodeB ⟨#[49]⟩ = true := i1
  have hp : parentB ⟨#[49]⟩ = ⟨#[]⟩ := p1
  unfold faultOf headFault
  rw [if_neg (by simp)]
  cases hn : nameB s <;> simp [List.range_succ, List.find?, hc, hn, hasParentB, hp, codeAt]

set_option maxHeartbeats 1000000 in
theorem arisName_any (s : ByteArray) (w : World) (hL : Lay w) (hs : s.size ≤ 1000000) : Calls Tryz.prog 83 #[.string s] w fun e w' => e = .returned (.bool (nameB s)) ∧ Below w.heap.size w w' := by
  have hrow : RowG (w.alloc (.cells #[.string ⟨#[49]⟩, .string s] 54)) (.slice (some ⟨w.heap.size, 0, none⟩) 1 1) [((⟨#[49]⟩ : ByteArray), s)].length 2 (cellsH [((⟨#[49]⟩ : ByteArray), s)]) :=
    RowG.owns (World.ownsRow_lit (base := w.heap.size) (size := 2) (e := 54) w _ 1 (Nat.le_refl _) (by decide) rfl)
  have hv := clValid_any [((⟨#[49]⟩ : ByteArray), s)] _ _ (hL.below (below_alloc w _) (Nat.le_refl _)) hrow (by simp) (fun h hh => by simp at hh; subst hh; exact ⟨show 1 ≤ 1000000 by decide, hs⟩)
  rw [one_fault] at hv
  have HV := Lib.hid hv
  clear hv hrow hL
  cases hn : nameB s with
  | true =>
    rw [hn, if_pos rfl] at HV
    clear hn
    go_enter Tryz.func83, Tryz.ntmps83
    go_wp2_with fail
    refine (HV.out).mono ?_
    rintro e w1 ⟨rfl, hb⟩
    go_wp2
    go_ret
    exact ⟨rfl, (below_alloc _ _).trans (hb.mono (below_alloc _ _).size)⟩
  | false =>
    rw [hn, if_neg (by decide)] at HV
    clear hn
    go_enter Tryz.func83, Tryz.ntmps83
    go_wp2_with fail
    refine (HV.out).mono ?_
    rintro e w1 ⟨rfl, hb⟩
    go_wp2
    go_ret
    exact ⟨rfl, (below_alloc _ _).trans (hb.mono (below_alloc _ _).size)⟩

open Classical in
theorem parse_is (s : ByteArray) : ∃ p q : Int, ParseIs s p q ∧ dayI' s = p ∧ inDay s = (decide (q = 0) && decide (p ≤ 35990)) := by
  by_cases h : ∃ d : Nat, d ≤ 36000 ∧ dayText d = s
  · obtain ⟨d, hd, hs⟩ := h
    have hx : ∃ d : Nat, d ≤ 36000 ∧ dayText d = s := ⟨d, hd, hs⟩
    have hc : Classical.choose hx = d := dayText_inj (Classical.choose_spec hx).1 hd ((Classical.choose_spec hx).2.trans hs.symm)
    refine ⟨d, 0, Or.inl ⟨d, hd, hs, rfl, rfl⟩, by unfold dayI'; rw [dif_pos hx, hc], ?_⟩
    unfold inDay
    rw [decide_eq_true (rfl : (0 : Int) = 0), Bool.true_and, decide_eq_decide]
    constructor
    · rintro ⟨d', h1, h2⟩
      have := dayText_inj (by omega) hd (h2.trans hs.symm)
      omega
    · intro h; exact ⟨d, by omega, hs⟩
  · refine ⟨0, 4, Or.inr ⟨fun d hd e => h ⟨d, hd, e⟩, rfl, rfl⟩, by unfold dayI'; rw [dif_neg h], ?_⟩
    unfold inDay
    rw [decide_eq_false (by decide : ¬ (4 : Int) = 0), Bool.false_and, decide_eq_false]
    rintro ⟨d, h1, h2⟩
    exact h ⟨d, by omega, h2⟩

set_option maxHeartbeats 1000000 in
theorem readDay_any (s : ByteArray) (w : World) (hL : Lay w) (hs : s.size ≤ 1000000) : Calls Tryz.prog 86 #[.string s] w (Two w (dayI' s) (inDay s)) := by
  obtain ⟨p, q, hpq, h1, h2⟩ := parse_is s
  have HP := Lib.hid (cParse_any s p q hpq w hL hs)
  rw [h1, h2]
  clear h1 h2 hpq hL
  by_cases hq : q = 0
  · subst hq
    rw [decide_eq_true rfl, Bool.true_and]
    by_cases h3 : p ≤ 35990
    · rw [decide_eq_true h3]
      have d3 : decide (p ≤ 35990) = true := decide_eq_true h3
      go_enter Tryz.func86, Tryz.ntmps86
      go_wp2_with fail
      refine (HP.out).mono ?_
      rintro e w1 ⟨rfl, hb⟩
      go_wp2
      go_ret2
      exact ⟨rfl, hb⟩
    · rw [decide_eq_false h3]
      have d3 : decide (p ≤ 35990) = false := decide_eq_false h3
      go_enter Tryz.func86, Tryz.ntmps86
      go_wp2_with fail
      refine (HP.out).mono ?_
      rintro e w1 ⟨rfl, hb⟩
      go_wp2
      go_ret2
      exact ⟨rfl, hb⟩
  · rw [decide_eq_false hq, Bool.false_and]
    have d3 : (q == 0) = false := by rw [beq_eq_false_iff_ne]; exact hq
    go_enter Tryz.func86, Tryz.ntmps86
    go_wp2_with fail
    refine (HP.out).mono ?_
    rintro e w1 ⟨rfl, hb⟩
    go_wp2
    go_ret2
    exact ⟨rfl, hb⟩

set_option maxRecDepth 100000 in
set_option maxHeartbeats 1000000 in
theorem take_code (kd : Int) (cd ot nm : ByteArray) (yr am pc nu dy ls wh : Int) (p x : ByteArray) (b : Nat) (w : World) (hL : Lay w) (hs : x.size ≤ 1000000) (ha : ArtAt w b ⟨kd, cd, ot, nm, yr, am, pc, nu, dy, ls, wh⟩) (e0 : (p.toList == [67, 79, 68, 69]) = true) :
    Calls Tryz.prog 59 #[.pointer (some ⟨b, 0, none⟩), .string p, .string x] w (TakePost w b (takeOf ⟨kd, cd, ot, nm, yr, am, pc, nu, dy, ls, wh⟩ .code x)) := by
  have HC := Lib.hid (arisCode_any x w hL hs)
  have hT : takeOf ⟨kd, cd, ot, nm, yr, am, pc, nu, dy, ls, wh⟩ .code x = (⟨kd, x, ot, nm, yr, am, pc, nu, dy, ls, wh⟩, isCodeB x) := rfl
  rw [hT]
  have HA := Lib.hid ha
  obtain ⟨r, hr⟩ : ∃ r, r = isCodeB x := ⟨_, rfl⟩
  rw [← hr] at HC ⊢
  clear hr hT hL ha hs
  go_enter Tryz.func59, Tryz.ntmps59
  go_wp2_with fail
  refine (HC.out).mono ?_
  rintro e w1 ⟨rfl, hb⟩
  have hA1 := HA.out.below hb
  have hc := art_cell hA1 1
  have hf := art_free hA1 1
  simp only [Art.cells] at hc
  have HA1 := Lib.hid hA1
  have HB := Lib.hid hb
  clear hA1 hb
  go_wp2
  go_ret
  exact ⟨rfl, art_set HA1.out 1 _, grown_set HB.out _ _⟩

set_option maxRecDepth 100000 in
set_option maxHeartbeats 1000000 in
theorem take_other (kd : Int) (cd ot nm : ByteArray) (yr am pc nu dy ls wh : Int) (p x : ByteArray) (b : Nat) (w : World) (hL : Lay w) (hs : x.size ≤ 1000000) (ha : ArtAt w b ⟨kd, cd, ot, nm, yr, am, pc, nu, dy, ls, wh⟩) (e0 : (p.toList == [67, 79, 68, 69]) = false) (e1 : (p.toList == [79, 84, 72, 69, 82]) = true) :
    Calls Tryz.prog 59 #[.pointer (some ⟨b, 0, none⟩), .string p, .string x] w (TakePost w b (takeOf ⟨kd, cd, ot, nm, yr, am, pc, nu, dy, ls, wh⟩ .other x)) := by
  have HC := Lib.hid (arisCode_any x w hL hs)
  have hT : takeOf ⟨kd, cd, ot, nm, yr, am, pc, nu, dy, ls, wh⟩ .other x = (⟨kd, cd, x, nm, yr, am, pc, nu, dy, ls, wh⟩, isCodeB x) := rfl
  rw [hT]
  have HA := Lib.hid ha
  obtain ⟨r, hr⟩ : ∃ r, r = isCodeB x := ⟨_, rfl⟩
  rw [← hr] at HC ⊢
  clear hr hT hL ha hs
  go_enter Tryz.func59, Tryz.ntmps59
  go_wp2_with fail
  refine (HC.out).mono ?_
  rintro e w1 ⟨rfl, hb⟩
  have hA1 := HA.out.below hb
  have hc := art_cell hA1 2
  have hf := art_free hA1 2
  simp only [Art.cells] at hc
  have HA1 := Lib.hid hA1
  have HB := Lib.hid hb
  clear hA1 hb
  go_wp2
  go_ret
  exact ⟨rfl, art_set HA1.out 2 _, grown_set HB.out _ _⟩

set_option maxRecDepth 100000 in
set_option maxHeartbeats 1000000 in
theorem take_name (kd : Int) (cd ot nm : ByteArray) (yr am pc nu dy ls wh : Int) (p x : ByteArray) (b : Nat) (w : World) (hL : Lay w) (hs : x.size ≤ 1000000) (ha : ArtAt w b ⟨kd, cd, ot, nm, yr, am, pc, nu, dy, ls, wh⟩) (e0 : (p.toList == [67, 79, 68, 69]) = false) (e1 : (p.toList == [79, 84, 72, 69, 82]) = false) (e2 : (p.toList == [78, 65, 77, 69]) = true) :
    Calls Tryz.prog 59 #[.pointer (some ⟨b, 0, none⟩), .string p, .string x] w (TakePost w b (takeOf ⟨kd, cd, ot, nm, yr, am, pc, nu, dy, ls, wh⟩ .name x)) := by
  have HC := Lib.hid (arisName_any x w hL hs)
  have hT : takeOf ⟨kd, cd, ot, nm, yr, am, pc, nu, dy, ls, wh⟩ .name x = (⟨kd, cd, ot, x, yr, am, pc, nu, dy, ls, wh⟩, nameB x) := rfl
  rw [hT]
  have HA := Lib.hid ha
  obtain ⟨r, hr⟩ : ∃ r, r = nameB x := ⟨_, rfl⟩
  rw [← hr] at HC ⊢
  clear hr hT hL ha hs
  go_enter Tryz.func59, Tryz.ntmps59
  go_wp2_with fail
  refine (HC.out).mono ?_
  rintro e w1 ⟨rfl, hb⟩
  have hA1 := HA.out.below hb
  have hc := art_cell hA1 3
  have hf := art_free hA1 3
  simp only [Art.cells] at hc
  have HA1 := Lib.hid hA1
  have HB := Lib.hid hb
  clear hA1 hb
  go_wp2
  go_ret
  exact ⟨rfl, art_set HA1.out 3 _, grown_set HB.out _ _⟩

set_option maxRecDepth 100000 in
set_option maxHeartbeats 1000000 in
theorem take_year (kd : Int) (cd ot nm : ByteArray) (yr am pc nu dy ls wh : Int) (p x : ByteArray) (b : Nat) (w : World) (hL : Lay w) (hs : x.size ≤ 1000000) (ha : ArtAt w b ⟨kd, cd, ot, nm, yr, am, pc, nu, dy, ls, wh⟩) (e0 : (p.toList == [67, 79, 68, 69]) = false) (e1 : (p.toList == [79, 84, 72, 69, 82]) = false) (e2 : (p.toList == [78, 65, 77, 69]) = false) (e3 : (p.toList == [89, 69, 65, 82]) = true) :
    Calls Tryz.prog 59 #[.pointer (some ⟨b, 0, none⟩), .string p, .string x] w (TakePost w b (takeOf ⟨kd, cd, ot, nm, yr, am, pc, nu, dy, ls, wh⟩ .year x)) := by
  have HC := Lib.hid (readNumber_any x 0 99 w hL hs)
  have hT : takeOf ⟨kd, cd, ot, nm, yr, am, pc, nu, dy, ls, wh⟩ .year x = (⟨kd, cd, ot, nm, (numI x), am, pc, nu, dy, ls, wh⟩, inN x 0 99) := rfl
  rw [hT]
  have HA := Lib.hid ha
  generalize inN x 0 99 = r at *
  generalize numI x = n at *
  clear hT hL ha hs
  go_enter Tryz.func59, Tryz.ntmps59
  go_wp2_with fail
  refine (HC.out).mono ?_
  rintro e w1 ⟨rfl, hb⟩
  have hA1 := HA.out.below hb
  have hc := art_cell hA1 4
  have hf := art_free hA1 4
  simp only [Art.cells] at hc
  have HA1 := Lib.hid hA1
  have HB := Lib.hid hb
  clear hA1 hb
  go_wp2
  go_ret
  exact ⟨rfl, art_set HA1.out 4 _, grown_set HB.out _ _⟩

set_option maxRecDepth 100000 in
set_option maxHeartbeats 1000000 in
theorem take_span (kd : Int) (cd ot nm : ByteArray) (yr am pc nu dy ls wh : Int) (p x : ByteArray) (b : Nat) (w : World) (hL : Lay w) (hs : x.size ≤ 1000000) (ha : ArtAt w b ⟨kd, cd, ot, nm, yr, am, pc, nu, dy, ls, wh⟩) (e0 : (p.toList == [67, 79, 68, 69]) = false) (e1 : (p.toList == [79, 84, 72, 69, 82]) = false) (e2 : (p.toList == [78, 65, 77, 69]) = false) (e3 : (p.toList == [89, 69, 65, 82]) = false) (e4 : (p.toList == [83, 80, 65, 78]) = true) :
    Calls Tryz.prog 59 #[.pointer (some ⟨b, 0, none⟩), .string p, .string x] w (TakePost w b (takeOf ⟨kd, cd, ot, nm, yr, am, pc, nu, dy, ls, wh⟩ .span x)) := by
  have HC := Lib.hid (readNumberOr_any x 99 allT w hL hs)
  have hT : takeOf ⟨kd, cd, ot, nm, yr, am, pc, nu, dy, ls, wh⟩ .span x = (⟨kd, cd, ot, nm, (orI x allT), am, pc, nu, dy, ls, wh⟩, inOr x 99 allT) := rfl
  rw [hT]
  unfold allT at *
  have HA := Lib.hid ha
  generalize inOr x 99 ⟨#[97, 108, 108]⟩ = r at *
  generalize orI x ⟨#[97, 108, 108]⟩ = n at *
  clear hT hL ha hs
  go_enter Tryz.func59, Tryz.ntmps59
  go_wp2_with fail
  refine (HC.out).mono ?_
  rintro e w1 ⟨rfl, hb⟩
  have hA1 := HA.out.below hb
  have hc := art_cell hA1 4
  have hf := art_free hA1 4
  simp only [Art.cells] at hc
  have HA1 := Lib.hid hA1
  have HB := Lib.hid hb
  clear hA1 hb
  go_wp2
  go_ret
  exact ⟨rfl, art_set HA1.out 4 _, grown_set HB.out _ _⟩

set_option maxRecDepth 100000 in
set_option maxHeartbeats 1000000 in
theorem take_amount (kd : Int) (cd ot nm : ByteArray) (yr am pc nu dy ls wh : Int) (p x : ByteArray) (b : Nat) (w : World) (hL : Lay w) (hs : x.size ≤ 1000000) (ha : ArtAt w b ⟨kd, cd, ot, nm, yr, am, pc, nu, dy, ls, wh⟩) (e0 : (p.toList == [67, 79, 68, 69]) = false) (e1 : (p.toList == [79, 84, 72, 69, 82]) = false) (e2 : (p.toList == [78, 65, 77, 69]) = false) (e3 : (p.toList == [89, 69, 65, 82]) = false) (e4 : (p.toList == [83, 80, 65, 78]) = false) (e5 : (p.toList == [65, 77, 79, 85, 78, 84]) = true) :
    Calls Tryz.prog 59 #[.pointer (some ⟨b, 0, none⟩), .string p, .string x] w (TakePost w b (takeOf ⟨kd, cd, ot, nm, yr, am, pc, nu, dy, ls, wh⟩ .amount x)) := by
  have HC := Lib.hid (readNumber_any x 0 1000000000000 w hL hs)
  have hT : takeOf ⟨kd, cd, ot, nm, yr, am, pc, nu, dy, ls, wh⟩ .amount x = (⟨kd, cd, ot, nm, yr, (numI x), pc, nu, dy, ls, wh⟩, inN x 0 1000000000000) := rfl
  rw [hT]
  have HA := Lib.hid ha
  generalize inN x 0 1000000000000 = r at *
  generalize numI x = n at *
  clear hT hL ha hs
  go_enter Tryz.func59, Tryz.ntmps59
  go_wp2_with fail
  refine (HC.out).mono ?_
  rintro e w1 ⟨rfl, hb⟩
  have hA1 := HA.out.below hb
  have hc := art_cell hA1 5
  have hf := art_free hA1 5
  simp only [Art.cells] at hc
  have HA1 := Lib.hid hA1
  have HB := Lib.hid hb
  clear hA1 hb
  go_wp2
  go_ret
  exact ⟨rfl, art_set HA1.out 5 _, grown_set HB.out _ _⟩

set_option maxRecDepth 100000 in
set_option maxHeartbeats 1000000 in
theorem take_limit (kd : Int) (cd ot nm : ByteArray) (yr am pc nu dy ls wh : Int) (p x : ByteArray) (b : Nat) (w : World) (hL : Lay w) (hs : x.size ≤ 1000000) (ha : ArtAt w b ⟨kd, cd, ot, nm, yr, am, pc, nu, dy, ls, wh⟩) (e0 : (p.toList == [67, 79, 68, 69]) = false) (e1 : (p.toList == [79, 84, 72, 69, 82]) = false) (e2 : (p.toList == [78, 65, 77, 69]) = false) (e3 : (p.toList == [89, 69, 65, 82]) = false) (e4 : (p.toList == [83, 80, 65, 78]) = false) (e5 : (p.toList == [65, 77, 79, 85, 78, 84]) = false) (e6 : (p.toList == [76, 73, 77, 73, 84]) = true) :
    Calls Tryz.prog 59 #[.pointer (some ⟨b, 0, none⟩), .string p, .string x] w (TakePost w b (takeOf ⟨kd, cd, ot, nm, yr, am, pc, nu, dy, ls, wh⟩ .limit x)) := by
  have HC := Lib.hid (readNumberOr_any x 1000000000000 noneT w hL hs)
  have hT : takeOf ⟨kd, cd, ot, nm, yr, am, pc, nu, dy, ls, wh⟩ .limit x = (⟨kd, cd, ot, nm, yr, (orI x noneT), pc, nu, dy, ls, wh⟩, inOr x 1000000000000 noneT) := rfl
  rw [hT]
  unfold noneT at *
  have HA := Lib.hid ha
  generalize inOr x 1000000000000 ⟨#[110, 111, 110, 101]⟩ = r at *
  generalize orI x ⟨#[110, 111, 110, 101]⟩ = n at *
  clear hT hL ha hs
  go_enter Tryz.func59, Tryz.ntmps59
  go_wp2_with fail
  refine (HC.out).mono ?_
  rintro e w1 ⟨rfl, hb⟩
  have hA1 := HA.out.below hb
  have hc := art_cell hA1 5
  have hf := art_free hA1 5
  simp only [Art.cells] at hc
  have HA1 := Lib.hid hA1
  have HB := Lib.hid hb
  clear hA1 hb
  go_wp2
  go_ret
  exact ⟨rfl, art_set HA1.out 5 _, grown_set HB.out _ _⟩

set_option maxRecDepth 100000 in
set_option maxHeartbeats 1000000 in
theorem take_least (kd : Int) (cd ot nm : ByteArray) (yr am pc nu dy ls wh : Int) (p x : ByteArray) (b : Nat) (w : World) (hL : Lay w) (hs : x.size ≤ 1000000) (ha : ArtAt w b ⟨kd, cd, ot, nm, yr, am, pc, nu, dy, ls, wh⟩) (e0 : (p.toList == [67, 79, 68, 69]) = false) (e1 : (p.toList == [79, 84, 72, 69, 82]) = false) (e2 : (p.toList == [78, 65, 77, 69]) = false) (e3 : (p.toList == [89, 69, 65, 82]) = false) (e4 : (p.toList == [83, 80, 65, 78]) = false) (e5 : (p.toList == [65, 77, 79, 85, 78, 84]) = false) (e6 : (p.toList == [76, 73, 77, 73, 84]) = false) (e7 : (p.toList == [76, 69, 65, 83, 84]) = true) :
    Calls Tryz.prog 59 #[.pointer (some ⟨b, 0, none⟩), .string p, .string x] w (TakePost w b (takeOf ⟨kd, cd, ot, nm, yr, am, pc, nu, dy, ls, wh⟩ .least x)) := by
  have HC := Lib.hid (readNumber_any x 0 1000000000000 w hL hs)
  have hT : takeOf ⟨kd, cd, ot, nm, yr, am, pc, nu, dy, ls, wh⟩ .least x = (⟨kd, cd, ot, nm, yr, am, pc, nu, dy, (numI x), wh⟩, inN x 0 1000000000000) := rfl
  rw [hT]
  have HA := Lib.hid ha
  generalize inN x 0 1000000000000 = r at *
  generalize numI x = n at *
  clear hT hL ha hs
  go_enter Tryz.func59, Tryz.ntmps59
  go_wp2_with fail
  refine (HC.out).mono ?_
  rintro e w1 ⟨rfl, hb⟩
  have hA1 := HA.out.below hb
  have hc := art_cell hA1 9
  have hf := art_free hA1 9
  simp only [Art.cells] at hc
  have HA1 := Lib.hid hA1
  have HB := Lib.hid hb
  clear hA1 hb
  go_wp2
  go_ret
  exact ⟨rfl, art_set HA1.out 9 _, grown_set HB.out _ _⟩

set_option maxRecDepth 100000 in
set_option maxHeartbeats 1000000 in
theorem take_percent (kd : Int) (cd ot nm : ByteArray) (yr am pc nu dy ls wh : Int) (p x : ByteArray) (b : Nat) (w : World) (hL : Lay w) (hs : x.size ≤ 1000000) (ha : ArtAt w b ⟨kd, cd, ot, nm, yr, am, pc, nu, dy, ls, wh⟩) (e0 : (p.toList == [67, 79, 68, 69]) = false) (e1 : (p.toList == [79, 84, 72, 69, 82]) = false) (e2 : (p.toList == [78, 65, 77, 69]) = false) (e3 : (p.toList == [89, 69, 65, 82]) = false) (e4 : (p.toList == [83, 80, 65, 78]) = false) (e5 : (p.toList == [65, 77, 79, 85, 78, 84]) = false) (e6 : (p.toList == [76, 73, 77, 73, 84]) = false) (e7 : (p.toList == [76, 69, 65, 83, 84]) = false) (e8 : (p.toList == [80, 69, 82, 67, 69, 78, 84]) = true) :
    Calls Tryz.prog 59 #[.pointer (some ⟨b, 0, none⟩), .string p, .string x] w (TakePost w b (takeOf ⟨kd, cd, ot, nm, yr, am, pc, nu, dy, ls, wh⟩ .percent x)) := by
  have HC := Lib.hid (readNumber_any x 0 100 w hL hs)
  have hT : takeOf ⟨kd, cd, ot, nm, yr, am, pc, nu, dy, ls, wh⟩ .percent x = (⟨kd, cd, ot, nm, yr, am, (numI x), nu, dy, ls, wh⟩, inN x 0 100) := rfl
  rw [hT]
  have HA := Lib.hid ha
  generalize inN x 0 100 = r at *
  generalize numI x = n at *
  clear hT hL ha hs
  go_enter Tryz.func59, Tryz.ntmps59
  go_wp2_with fail
  refine (HC.out).mono ?_
  rintro e w1 ⟨rfl, hb⟩
  have hA1 := HA.out.below hb
  have hc := art_cell hA1 6
  have hf := art_free hA1 6
  simp only [Art.cells] at hc
  have HA1 := Lib.hid hA1
  have HB := Lib.hid hb
  clear hA1 hb
  go_wp2
  go_ret
  exact ⟨rfl, art_set HA1.out 6 _, grown_set HB.out _ _⟩

set_option maxRecDepth 100000 in
set_option maxHeartbeats 1000000 in
theorem take_number (kd : Int) (cd ot nm : ByteArray) (yr am pc nu dy ls wh : Int) (p x : ByteArray) (b : Nat) (w : World) (hL : Lay w) (hs : x.size ≤ 1000000) (ha : ArtAt w b ⟨kd, cd, ot, nm, yr, am, pc, nu, dy, ls, wh⟩) (e0 : (p.toList == [67, 79, 68, 69]) = false) (e1 : (p.toList == [79, 84, 72, 69, 82]) = false) (e2 : (p.toList == [78, 65, 77, 69]) = false) (e3 : (p.toList == [89, 69, 65, 82]) = false) (e4 : (p.toList == [83, 80, 65, 78]) = false) (e5 : (p.toList == [65, 77, 79, 85, 78, 84]) = false) (e6 : (p.toList == [76, 73, 77, 73, 84]) = false) (e7 : (p.toList == [76, 69, 65, 83, 84]) = false) (e8 : (p.toList == [80, 69, 82, 67, 69, 78, 84]) = false) (e9 : (p.toList == [78, 85, 77, 66, 69, 82]) = true) :
    Calls Tryz.prog 59 #[.pointer (some ⟨b, 0, none⟩), .string p, .string x] w (TakePost w b (takeOf ⟨kd, cd, ot, nm, yr, am, pc, nu, dy, ls, wh⟩ .number x)) := by
  have HC := Lib.hid (readNumber_any x 1 1000000 w hL hs)
  have hT : takeOf ⟨kd, cd, ot, nm, yr, am, pc, nu, dy, ls, wh⟩ .number x = (⟨kd, cd, ot, nm, yr, am, pc, (numI x), dy, ls, wh⟩, inN x 1 1000000) := rfl
  rw [hT]
  have HA := Lib.hid ha
  generalize inN x 1 1000000 = r at *
  generalize numI x = n at *
  clear hT hL ha hs
  go_enter Tryz.func59, Tryz.ntmps59
  go_wp2_with fail
  refine (HC.out).mono ?_
  rintro e w1 ⟨rfl, hb⟩
  have hA1 := HA.out.below hb
  have hc := art_cell hA1 7
  have hf := art_free hA1 7
  simp only [Art.cells] at hc
  have HA1 := Lib.hid hA1
  have HB := Lib.hid hb
  clear hA1 hb
  go_wp2
  go_ret
  exact ⟨rfl, art_set HA1.out 7 _, grown_set HB.out _ _⟩

set_option maxRecDepth 100000 in
set_option maxHeartbeats 1000000 in
theorem take_count (kd : Int) (cd ot nm : ByteArray) (yr am pc nu dy ls wh : Int) (p x : ByteArray) (b : Nat) (w : World) (hL : Lay w) (hs : x.size ≤ 1000000) (ha : ArtAt w b ⟨kd, cd, ot, nm, yr, am, pc, nu, dy, ls, wh⟩) (e0 : (p.toList == [67, 79, 68, 69]) = false) (e1 : (p.toList == [79, 84, 72, 69, 82]) = false) (e2 : (p.toList == [78, 65, 77, 69]) = false) (e3 : (p.toList == [89, 69, 65, 82]) = false) (e4 : (p.toList == [83, 80, 65, 78]) = false) (e5 : (p.toList == [65, 77, 79, 85, 78, 84]) = false) (e6 : (p.toList == [76, 73, 77, 73, 84]) = false) (e7 : (p.toList == [76, 69, 65, 83, 84]) = false) (e8 : (p.toList == [80, 69, 82, 67, 69, 78, 84]) = false) (e9 : (p.toList == [78, 85, 77, 66, 69, 82]) = false) (e10 : (p.toList == [67, 79, 85, 78, 84]) = true) :
    Calls Tryz.prog 59 #[.pointer (some ⟨b, 0, none⟩), .string p, .string x] w (TakePost w b (takeOf ⟨kd, cd, ot, nm, yr, am, pc, nu, dy, ls, wh⟩ .count x)) := by
  have HC := Lib.hid (readNumber_any x 1 4 w hL hs)
  have hT : takeOf ⟨kd, cd, ot, nm, yr, am, pc, nu, dy, ls, wh⟩ .count x = (⟨kd, cd, ot, nm, yr, am, pc, (numI x), dy, ls, wh⟩, inN x 1 4) := rfl
  rw [hT]
  have HA := Lib.hid ha
  generalize inN x 1 4 = r at *
  generalize numI x = n at *
  clear hT hL ha hs
  go_enter Tryz.func59, Tryz.ntmps59
  go_wp2_with fail
  refine (HC.out).mono ?_
  rintro e w1 ⟨rfl, hb⟩
  have hA1 := HA.out.below hb
  have hc := art_cell hA1 7
  have hf := art_free hA1 7
  simp only [Art.cells] at hc
  have HA1 := Lib.hid hA1
  have HB := Lib.hid hb
  clear hA1 hb
  go_wp2
  go_ret
  exact ⟨rfl, art_set HA1.out 7 _, grown_set HB.out _ _⟩

set_option maxRecDepth 100000 in
set_option maxHeartbeats 1000000 in
theorem take_day (kd : Int) (cd ot nm : ByteArray) (yr am pc nu dy ls wh : Int) (p x : ByteArray) (b : Nat) (w : World) (hL : Lay w) (hs : x.size ≤ 1000000) (ha : ArtAt w b ⟨kd, cd, ot, nm, yr, am, pc, nu, dy, ls, wh⟩) (e0 : (p.toList == [67, 79, 68, 69]) = false) (e1 : (p.toList == [79, 84, 72, 69, 82]) = false) (e2 : (p.toList == [78, 65, 77, 69]) = false) (e3 : (p.toList == [89, 69, 65, 82]) = false) (e4 : (p.toList == [83, 80, 65, 78]) = false) (e5 : (p.toList == [65, 77, 79, 85, 78, 84]) = false) (e6 : (p.toList == [76, 73, 77, 73, 84]) = false) (e7 : (p.toList == [76, 69, 65, 83, 84]) = false) (e8 : (p.toList == [80, 69, 82, 67, 69, 78, 84]) = false) (e9 : (p.toList == [78, 85, 77, 66, 69, 82]) = false) (e10 : (p.toList == [67, 79, 85, 78, 84]) = false) (e11 : (p.toList == [68, 65, 89]) = true) :
    Calls Tryz.prog 59 #[.pointer (some ⟨b, 0, none⟩), .string p, .string x] w (TakePost w b (takeOf ⟨kd, cd, ot, nm, yr, am, pc, nu, dy, ls, wh⟩ .day x)) := by
  have HC := Lib.hid (readDay_any x w hL hs)
  have hT : takeOf ⟨kd, cd, ot, nm, yr, am, pc, nu, dy, ls, wh⟩ .day x = (⟨kd, cd, ot, nm, yr, am, pc, nu, (dayI' x), ls, wh⟩, inDay x) := rfl
  rw [hT]
  have HA := Lib.hid ha
  generalize inDay x = r at *
  generalize dayI' x = n at *
  clear hT hL ha hs
  go_enter Tryz.func59, Tryz.ntmps59
  go_wp2_with fail
  refine (HC.out).mono ?_
  rintro e w1 ⟨rfl, hb⟩
  have hA1 := HA.out.below hb
  have hc := art_cell hA1 8
  have hf := art_free hA1 8
  simp only [Art.cells] at hc
  have HA1 := Lib.hid hA1
  have HB := Lib.hid hb
  clear hA1 hb
  go_wp2
  go_ret
  exact ⟨rfl, art_set HA1.out 8 _, grown_set HB.out _ _⟩

set_option maxRecDepth 100000 in
set_option maxHeartbeats 1000000 in
theorem take_lit (a : Art) (p x : ByteArray) (b : Nat) (w : World) (ha : ArtAt w b a) (e0 : (p.toList == [67, 79, 68, 69]) = false) (e1 : (p.toList == [79, 84, 72, 69, 82]) = false) (e2 : (p.toList == [78, 65, 77, 69]) = false) (e3 : (p.toList == [89, 69, 65, 82]) = false) (e4 : (p.toList == [83, 80, 65, 78]) = false) (e5 : (p.toList == [65, 77, 79, 85, 78, 84]) = false) (e6 : (p.toList == [76, 73, 77, 73, 84]) = false) (e7 : (p.toList == [76, 69, 65, 83, 84]) = false) (e8 : (p.toList == [80, 69, 82, 67, 69, 78, 84]) = false) (e9 : (p.toList == [78, 85, 77, 66, 69, 82]) = false) (e10 : (p.toList == [67, 79, 85, 78, 84]) = false) (e11 : (p.toList == [68, 65, 89]) = false) :
    Calls Tryz.prog 59 #[.pointer (some ⟨b, 0, none⟩), .string p, .string x] w (TakePost w b (takeOf a (.lit p) x)) := by
  have hT : takeOf a (.lit p) x = (a, decide (x = p)) := rfl
  rw [hT]
  have HA := Lib.hid ha
  clear hT ha
  by_cases hx : x = p
  · have h1 := strEq_true hx
    rw [decide_eq_true hx]
    clear hx
    go_enter Tryz.func59, Tryz.ntmps59
    go_wp2
    go_ret
    exact ⟨rfl, HA.out, grownBy_refl _ _⟩
  · have h1 := strEq_false hx
    rw [decide_eq_false hx]
    clear hx
    go_enter Tryz.func59, Tryz.ntmps59
    go_wp2
    go_ret
    exact ⟨rfl, HA.out, grownBy_refl _ _⟩

end Go.Proofs.YtdedihdkkaoapaaGreatDoor

/- Contracts of article.forms and formOf: the forms, and that of an article. -/
namespace Go.Proofs.YtdedihdkkaoapaaGreatDoor
open Go.RowKit Go.Lib Go.Proofs

/-- Some forms as Go's slice of them holds them. -/
def cellsF : List Form → List Value
  | [] => []
  | f :: l => .int .i64 f.kind :: .int .i64 f.what :: .string f.text :: cellsF l

theorem cellsF_get : ∀ (l : List Form) (i : Nat) (hi : i < l.length), (cellsF l)[i * 3]? = some (.int .i64 l[i].kind) ∧ (cellsF l)[i * 3 + 1]? = some (.int .i64 l[i].what) ∧ (cellsF l)[i * 3 + 2]? = some (.string l[i].text)
  | [], i, hi => absurd hi (by simp)
  | x :: l, 0, _ => ⟨rfl, rfl, rfl⟩
  | x :: l, i + 1, hi => by
    have ih := cellsF_get l i (by simpa using hi)
    rw [show (i + 1) * 3 = i * 3 + 3 by omega]
    simpa [cellsF] using ih

def formsWorld (w : World) : World := w.alloc (.cells (cellsF formsL).toArray 61)

set_option maxRecDepth 100000 in
set_option maxHeartbeats 1000000 in
theorem forms_any (w : World) : Calls Tryz.prog 47 #[] w fun e w' => e = .returned (.slice (some ⟨w.heap.size, 0, none⟩) 12 12) ∧ w' = formsWorld w := by
  go_enter Tryz.func47, Tryz.ntmps47
  go_wp2
  go_ret
  exact ⟨rfl, rfl⟩

/-- A form as Go holds it. -/
def Form.cells (f : Form) : Array Value := #[.int .i64 f.kind, .int .i64 f.what, .string f.text]
def noForm : Array Value := #[.int .i64 0, .int .i64 0, .string ⟨#[]⟩]

/-- What formOf hands back. -/
def FormPost (w : World) (r : Option Form) (e : Ending) (w' : World) : Prop :=
  (match r with
    | some f => e = .returned (.tuple #[.agg f.cells, .bool true])
    | none => e = .returned (.tuple #[.agg noForm, .bool false])) ∧ Below w.heap.size w w'

/-- The worlds of formOf's loop: the article, the result's place, the forms. -/
structure FInv (w : World) (a : Art) (W : World) : Prop where
  art : W.heap[w.heap.size]? = some (.cells a.cells 24 (0, 0))
  res : W.heap[w.heap.size + 1]? = some (.cells noForm 61 (0, 0))
  row : ∀ j, W.cell? ⟨w.heap.size + 1 + 1, j, none⟩ = (cellsF formsL)[j]?
  old : Below w.heap.size w W
  top : w.heap.size + 1 + 1 < W.heap.size

theorem FInv.alloc {w : World} {a : Art} {W : World} (h : FInv w a W) (o : Obj) : FInv w a (W.alloc o) := by
  have ht := h.top
  refine ⟨?_, ?_, fun j => ?_, h.old.alloc h.old.size _, by simp; omega⟩
  · rw [Below.heap_alloc _ _ _ (by omega)]; exact h.art
  · rw [Below.heap_alloc _ _ _ (by omega)]; exact h.res
  · rw [World.cell?_of_block (w := W) (Below.heap_alloc W _ _ ht)]; exact h.row j

theorem finv_new (w : World) (a : Art) : FInv w a (formsWorld ((w.alloc (.cells a.cells 24)).alloc (.cells noForm 61))) := by
  have e1 : (w.alloc (.cells a.cells 24)).heap.size = w.heap.size + 1 := by simp
  have e2 : ((w.alloc (.cells a.cells 24)).alloc (.cells noForm 61)).heap.size = w.heap.size + 1 + 1 := by simp
  unfold formsWorld
  refine ⟨?_, ?_, fun j => ?_, (((Below.refl _ _).alloc (Nat.le_refl _) _).alloc (by simp) _).alloc (by simp; omega) _, by simp⟩
  · rw [Below.heap_alloc _ _ _ (by simp; omega), Below.heap_alloc _ _ _ (by simp)]; exact heap_alloc_new w _
  · rw [Below.heap_alloc _ _ _ (by simp)]
    have := heap_alloc_new (w.alloc (.cells a.cells 24)) (.cells noForm 61)
    rwa [e1] at this
  · have := heap_alloc_new ((w.alloc (.cells a.cells 24)).alloc (.cells noForm 61)) (.cells (cellsF formsL).toArray 61)
    rw [e2] at this
    rw [cell_of_row _ _ _ _ _ _ this]
    simp

theorem FInv.result {w : World} {a : Art} {W : World} (h : FInv w a W) (x y z : Value) {F : World} (hF : F = ((W.setCell ⟨w.heap.size + 1, 0, none⟩ x).setCell ⟨w.heap.size + 1, 1, none⟩ y).setCell ⟨w.heap.size + 1, 2, none⟩ z) :
    F.cell? ⟨w.heap.size + 1, 0, none⟩ = some x ∧ F.cell? ⟨w.heap.size + 1, 1, none⟩ = some y ∧ F.cell? ⟨w.heap.size + 1, 2, none⟩ = some z ∧ Below w.heap.size w F := by
  have h1 := art_set h.res 0 x
  have h2 := art_set h1 1 y
  have h3 := art_set h2 2 z
  rw [← hF] at h3
  have hR : w.heap.size ≤ w.heap.size + 1 := by omega
  refine ⟨by rw [art_cell h3]; rfl, by rw [art_cell h3]; rfl, by rw [art_cell h3]; rfl, ?_⟩
  subst hF
  exact ((h.old.setCell hR _).setCell hR _).setCell hR _

theorem formOf_none {a : Art} (h : ∀ f ∈ formsL, formB a f = false) : formOf a = none := by
  unfold formOf
  rw [List.find?_eq_none]
  intro f hf
  rw [h f hf]
  decide
theorem formOf_some {a : Art} {k : Nat} (hk : k < formsL.length) (h : ∀ f ∈ formsL.take k, formB a f = false) (h2 : formB a formsL[k] = true) : formOf a = some formsL[k] := by
  unfold formOf
  rw [List.find?_eq_some_iff_append]
  refine ⟨h2, formsL.take k, formsL.drop (k + 1), by rw [← List.drop_eq_getElem_cons hk, List.take_append_drop], fun f hf => by rw [h f hf]; decide⟩

set_option maxRecDepth 100000 in
set_option maxHeartbeats 4000000 in
theorem formOf_any (kd : Int) (cd ot nm : ByteArray) (yr am pc nu dy ls wh : Int) (w : World) :
    Calls Tryz.prog 38 #[.agg #[.int .i64 kd, .string cd, .string ot, .string nm, .int .i64 yr, .int .i64 am, .int .i64 pc, .int .i64 nu, .int .i64 dy, .int .i64 ls, .int .i64 wh]] w (FormPost w (formOf ⟨kd, cd, ot, nm, yr, am, pc, nu, dy, ls, wh⟩)) := by
  obtain ⟨r, hr⟩ : ∃ r, r = formOf ⟨kd, cd, ot, nm, yr, am, pc, nu, dy, ls, wh⟩ := ⟨_, rfl⟩
  rw [← hr]
  have HR := Lib.hid hr
  have HI0 := Lib.hid (finv_new w ⟨kd, cd, ot, nm, yr, am, pc, nu, dy, ls, wh⟩)
  have hF := fun W => forms_any W
  have HF := Lib.hid hF
  have hlen : formsL.length = 12 := rfl
  have HLEN := Lib.hid hlen
  clear hr hF hlen
  go_enter Tryz.func38, Tryz.ntmps38
  go_wp2_with fail
  refine (HF.out _).mono ?_
  rintro e w' ⟨rfl, rfl⟩
  have hgen : ∃ W3, W3 = formsWorld ((w.alloc (.cells #[.int .i64 kd, .string cd, .string ot, .string nm, .int .i64 yr, .int .i64 am, .int .i64 pc, .int .i64 nu, .int .i64 dy, .int .i64 ls, .int .i64 wh] 24)).alloc (.cells #[.int .i64 0, .int .i64 0, .string ⟨#[]⟩] 61)) := ⟨_, rfl⟩
  obtain ⟨W3, hW3⟩ := hgen
  have HI3 : Hid (FInv w ⟨kd, cd, ot, nm, yr, am, pc, nu, dy, ls, wh⟩ W3) := Lib.hid (by rw [hW3]; exact HI0.out)
  rw [← hW3]
  clear hW3 HI0
  go_wp2_with fail
  go_loopw [8] (fun i wr => ∃ k : Nat, i = .int .i64 k ∧ k ≤ 12 ∧ Hid (∀ f ∈ formsL.take k, formB ⟨kd, cd, ot, nm, yr, am, pc, nu, dy, ls, wh⟩ f = false) ∧ Hid (FInv w ⟨kd, cd, ot, nm, yr, am, pc, nu, dy, ls, wh⟩ wr)) (fun i _ => 12 - (RowKit.intOf i).toNat)
  case atStart => exact ⟨0, rfl, by omega, Lib.hid (by simp), HI3⟩
  case round =>
    obtain ⟨k, rfl, hk12, HNO, HI⟩ := hrel
    by_cases hlt : k < 12
    · have hkl : k < formsL.length := by rw [HLEN.out]; exact hlt
      obtain ⟨g1, g2, g3⟩ := cellsF_get formsL k hkl
      have c1 := (HI.out.row (k * 3)).trans g1
      have c2 := (HI.out.row (k * 3 + 1)).trans g2
      have c3 := (HI.out.row (k * 3 + 2)).trans g3
      have hone : formB ⟨kd, cd, ot, nm, yr, am, pc, nu, dy, ls, wh⟩ formsL[k] = (decide (formsL[k].kind = kd) && decide (formsL[k].what = wh)) := rfl
      have hstep : formB ⟨kd, cd, ot, nm, yr, am, pc, nu, dy, ls, wh⟩ formsL[k] = false → ∀ f ∈ formsL.take (k + 1), formB ⟨kd, cd, ot, nm, yr, am, pc, nu, dy, ls, wh⟩ f = false := fun h f hf => by
        rw [List.take_succ_eq_append_getElem hkl] at hf
        rcases List.mem_append.1 hf with hf | hf
        · exact HNO.out f hf
        · rw [List.mem_singleton.1 hf]; exact h
      have hhit : formB ⟨kd, cd, ot, nm, yr, am, pc, nu, dy, ls, wh⟩ formsL[k] = true → r = some formsL[k] := fun h => HR.out.trans (formOf_some hkl HNO.out h)
      obtain ⟨f, hf⟩ : ∃ f, f = formsL[k] := ⟨_, rfl⟩
      rw [← hf] at c1 c2 c3 hone hstep hhit
      obtain ⟨fk, fw, fp⟩ := f
      simp only at c1 c2 c3 hone
      generalize hft : Form.text ⟨fk, fw, fp⟩ = ft at c3
      have HIA := Lib.hid (HI.out.alloc (.cells #[.int .i64 fk, .int .i64 fw, .string ft] 61))
      have ha := art_cell HIA.out.art
      have a0 := ha 0
      have a10 := ha 10
      simp only [Art.cells] at a0 a10
      have htop := HI.out.top
      clear g1 g2 g3 ha hf
      by_cases h1 : fk = kd
      · subst h1
        by_cases h2 : fw = wh
        · subst h2
          have hh := hhit (by rw [hone]; simp)
          have HH := Lib.hid hh
          have HFT := Lib.hid hft
          have r0 := art_cell HIA.out.res 0
          have r1 := art_cell HIA.out.res 1
          have r2 := art_cell HIA.out.res 2
          have f0 := art_free HIA.out.res 0
          have f1 := art_free HIA.out.res 1
          have f2 := art_free HIA.out.res 2
          simp only [noForm] at r0 r1 r2
          clear hone hstep hhit hh hft
          go_wp2_with fail
          have HRR := fun F hF => HIA.out.result (.int .i64 fk) (.int .i64 fw) (.string ft) (F := F) hF
          generalize (((wr.alloc (.cells #[.int .i64 fk, .int .i64 fw, .string ft] 61)).setCell ⟨w.heap.size + 1, 0, none⟩ (.int .i64 fk)).setCell ⟨w.heap.size + 1, 1, none⟩ (.int .i64 fw)).setCell ⟨w.heap.size + 1, 2, none⟩ (.string ft) = F at HRR ⊢
          obtain ⟨q0, q1, q2, hb⟩ := HRR F rfl
          refine bodyPost_ret (v := .tuple #[.agg #[.int .i64 fk, .int .i64 fw, .string ft], .bool true]) (by simp [results, Tryz.results38, go_sem, q0, q1, q2]) rfl ⟨?_, hb⟩
          rw [HH.out, ← HFT.out]
          rfl
        · have hd : (fw == wh) = false := by rw [beq_eq_false_iff_ne]; exact h2
          have HN2 := Lib.hid (hstep (by rw [hone]; simp [h2]))
          clear hone hstep hhit h2 hft
          go_wp2_with fail
          go_roundw
          case rel => exact ⟨k + 1, by first | rfl | go_num, by omega, HN2, HIA⟩
          case measure => simp [RowKit.intOf]; omega
      · have hd : (fk == kd) = false := by rw [beq_eq_false_iff_ne]; exact h1
        have HN2 := Lib.hid (hstep (by rw [hone]; simp [h1]))
        clear hone hstep hhit h1 hft
        go_wp2_with fail
        go_roundw
        case rel => exact ⟨k + 1, by first | rfl | go_num, by omega, HN2, HIA⟩
        case measure => simp [RowKit.intOf]; omega
    · obtain rfl : k = 12 := by omega
      have hno : r = none := HR.out.trans (formOf_none (by have := HNO.out; rwa [List.take_of_length_le (by rw [HLEN.out]; omega)] at this))
      have HNN := Lib.hid hno
      have r0 := art_cell HI.out.res 0
      have r1 := art_cell HI.out.res 1
      have r2 := art_cell HI.out.res 2
      have f0 := art_free HI.out.res 0
      have f1 := art_free HI.out.res 1
      have f2 := art_free HI.out.res 2
      simp only [noForm] at r0 r1 r2
      clear hno
      go_wp2_with fail
      have HRR := fun F hF => HI.out.result (.int .i64 0) (.int .i64 0) (.string ⟨#[]⟩) (F := F) hF
      generalize ((wr.setCell ⟨w.heap.size + 1, 0, none⟩ (.int .i64 0)).setCell ⟨w.heap.size + 1, 1, none⟩ (.int .i64 0)).setCell ⟨w.heap.size + 1, 2, none⟩ (.string ⟨#[]⟩) = F at HRR ⊢
      obtain ⟨q0, q1, q2, hb⟩ := HRR F rfl
      refine bodyPost_ret (v := .tuple #[.agg #[.int .i64 0, .int .i64 0, .string ⟨#[]⟩], .bool false]) (by simp [results, Tryz.results38, go_sem, q0, q1, q2]) rfl ⟨?_, hb⟩
      rw [HNN.out]
      rfl

end Go.Proofs.YtdedihdkkaoapaaGreatDoor

/- Contracts of article.word: what an article has at a part of a form. -/
namespace Go.Proofs.YtdedihdkkaoapaaGreatDoor
open Go.RowKit Go.Lib Go.Proofs

theorem cText_art (d : Int) (w : World) (hL : Lay w) : Calls Tryz.prog 74 #[.int .i64 d] w fun e w' => e = .returned (.string (dayT d)) ∧ Below w.heap.size w w' := by
  unfold dayT
  by_cases hd : dayB d = true
  · obtain ⟨h0, h1⟩ := dayB_true.1 hd
    rw [if_pos hd]
    obtain ⟨u, rfl⟩ : ∃ u : Nat, d = u := ⟨d.toNat, by omega⟩
    have := cText_day u w (by omega) (hL.itoa u (by omega))
    rw [Int.toNat_natCast]
    exact this
  · rw [if_neg hd]
    have HV := Lib.hid (cValid_no w (by simpa using hd))
    clear hL hd
    go_enter Tryz.func74, Tryz.ntmps74
    go_wp2_with fail
    refine (HV.out).mono ?_
    rintro e w' ⟨rfl, rfl⟩
    go_wp2
    go_ret
    exact ⟨rfl, Below.refl _ _⟩

set_option maxRecDepth 100000 in
set_option maxHeartbeats 1000000 in
theorem word_code (kd : Int) (cd ot nm : ByteArray) (yr am pc nu dy ls wh : Int) (p : ByteArray) (w : World) (_ : Lay w) (e0 : (p.toList == [67, 79, 68, 69]) = true) :
    Calls Tryz.prog 55 #[.agg #[.int .i64 kd, .string cd, .string ot, .string nm, .int .i64 yr, .int .i64 am, .int .i64 pc, .int .i64 nu, .int .i64 dy, .int .i64 ls, .int .i64 wh], .string p] w fun e w' => e = .returned (.string cd) ∧ Below w.heap.size w w' := by
  go_enter Tryz.func55, Tryz.ntmps55
  go_wp2
  go_ret
  exact ⟨rfl, below_alloc _ _⟩

set_option maxRecDepth 100000 in
set_option maxHeartbeats 1000000 in
theorem word_other (kd : Int) (cd ot nm : ByteArray) (yr am pc nu dy ls wh : Int) (p : ByteArray) (w : World) (_ : Lay w) (e0 : (p.toList == [67, 79, 68, 69]) = false) (e1 : (p.toList == [79, 84, 72, 69, 82]) = true) :
    Calls Tryz.prog 55 #[.agg #[.int .i64 kd, .string cd, .string ot, .string nm, .int .i64 yr, .int .i64 am, .int .i64 pc, .int .i64 nu, .int .i64 dy, .int .i64 ls, .int .i64 wh], .string p] w fun e w' => e = .returned (.string ot) ∧ Below w.heap.size w w' := by
  go_enter Tryz.func55, Tryz.ntmps55
  go_wp2
  go_ret
  exact ⟨rfl, below_alloc _ _⟩

set_option maxRecDepth 100000 in
set_option maxHeartbeats 1000000 in
theorem word_name (kd : Int) (cd ot nm : ByteArray) (yr am pc nu dy ls wh : Int) (p : ByteArray) (w : World) (_ : Lay w) (e0 : (p.toList == [67, 79, 68, 69]) = false) (e1 : (p.toList == [79, 84, 72, 69, 82]) = false) (e2 : (p.toList == [78, 65, 77, 69]) = true) :
    Calls Tryz.prog 55 #[.agg #[.int .i64 kd, .string cd, .string ot, .string nm, .int .i64 yr, .int .i64 am, .int .i64 pc, .int .i64 nu, .int .i64 dy, .int .i64 ls, .int .i64 wh], .string p] w fun e w' => e = .returned (.string nm) ∧ Below w.heap.size w w' := by
  go_enter Tryz.func55, Tryz.ntmps55
  go_wp2
  go_ret
  exact ⟨rfl, below_alloc _ _⟩

set_option maxRecDepth 100000 in
set_option maxHeartbeats 1000000 in
theorem word_year (kd : Int) (cd ot nm : ByteArray) (yr am pc nu dy ls wh : Int) (p : ByteArray) (w : World) (hL : Lay w) (b0 : -9223372036854775808 ≤ yr) (b1 : yr ≤ 9223372036854775807) (e0 : (p.toList == [67, 79, 68, 69]) = false) (e1 : (p.toList == [79, 84, 72, 69, 82]) = false) (e2 : (p.toList == [78, 65, 77, 69]) = false) (e3 : (p.toList == [89, 69, 65, 82]) = true) :
    Calls Tryz.prog 55 #[.agg #[.int .i64 kd, .string cd, .string ot, .string nm, .int .i64 yr, .int .i64 am, .int .i64 pc, .int .i64 nu, .int .i64 dy, .int .i64 ls, .int .i64 wh], .string p] w fun e w' => e = .returned (.string (itoaT yr)) ∧ Below w.heap.size w w' := by
  have HI := Lib.hid (fun o => itoa_any yr (w.alloc o) (hL.below (below_alloc w o) (Nat.le_refl _)) b0 b1)
  clear b0 b1 hL
  go_enter Tryz.func55, Tryz.ntmps55
  go_wp2_with fail
  refine (HI.out _).mono ?_
  rintro e w1 ⟨rfl, hb⟩
  go_wp2
  go_ret
  exact ⟨rfl, (below_alloc _ _).trans (hb.mono (below_alloc _ _).size)⟩

set_option maxRecDepth 100000 in
set_option maxHeartbeats 1000000 in
theorem word_span (kd : Int) (cd ot nm : ByteArray) (yr am pc nu dy ls wh : Int) (p : ByteArray) (w : World) (hL : Lay w) (b0 : -9223372036854775808 ≤ yr) (b1 : yr ≤ 9223372036854775807) (e0 : (p.toList == [67, 79, 68, 69]) = false) (e1 : (p.toList == [79, 84, 72, 69, 82]) = false) (e2 : (p.toList == [78, 65, 77, 69]) = false) (e3 : (p.toList == [89, 69, 65, 82]) = false) (e4 : (p.toList == [83, 80, 65, 78]) = true) :
    Calls Tryz.prog 55 #[.agg #[.int .i64 kd, .string cd, .string ot, .string nm, .int .i64 yr, .int .i64 am, .int .i64 pc, .int .i64 nu, .int .i64 dy, .int .i64 ls, .int .i64 wh], .string p] w fun e w' => e = .returned (.string (numOr yr allT)) ∧ Below w.heap.size w w' := by
  have HI := Lib.hid (fun o => numberOr_any yr allT (w.alloc o) (hL.below (below_alloc w o) (Nat.le_refl _)) b0 b1)
  clear b0 b1 hL
  unfold allT at HI ⊢
  go_enter Tryz.func55, Tryz.ntmps55
  go_wp2_with fail
  refine (HI.out _).mono ?_
  rintro e w1 ⟨rfl, hb⟩
  go_wp2
  go_ret
  exact ⟨rfl, (below_alloc _ _).trans (hb.mono (below_alloc _ _).size)⟩

set_option maxRecDepth 100000 in
set_option maxHeartbeats 1000000 in
theorem word_amount (kd : Int) (cd ot nm : ByteArray) (yr am pc nu dy ls wh : Int) (p : ByteArray) (w : World) (hL : Lay w) (b0 : -9223372036854775808 ≤ am) (b1 : am ≤ 9223372036854775807) (e0 : (p.toList == [67, 79, 68, 69]) = false) (e1 : (p.toList == [79, 84, 72, 69, 82]) = false) (e2 : (p.toList == [78, 65, 77, 69]) = false) (e3 : (p.toList == [89, 69, 65, 82]) = false) (e4 : (p.toList == [83, 80, 65, 78]) = false) (e5 : (p.toList == [65, 77, 79, 85, 78, 84]) = true) :
    Calls Tryz.prog 55 #[.agg #[.int .i64 kd, .string cd, .string ot, .string nm, .int .i64 yr, .int .i64 am, .int .i64 pc, .int .i64 nu, .int .i64 dy, .int .i64 ls, .int .i64 wh], .string p] w fun e w' => e = .returned (.string (itoaT am)) ∧ Below w.heap.size w w' := by
  have HI := Lib.hid (fun o => itoa_any am (w.alloc o) (hL.below (below_alloc w o) (Nat.le_refl _)) b0 b1)
  clear b0 b1 hL
  go_enter Tryz.func55, Tryz.ntmps55
  go_wp2_with fail
  refine (HI.out _).mono ?_
  rintro e w1 ⟨rfl, hb⟩
  go_wp2
  go_ret
  exact ⟨rfl, (below_alloc _ _).trans (hb.mono (below_alloc _ _).size)⟩

set_option maxRecDepth 100000 in
set_option maxHeartbeats 1000000 in
theorem word_limit (kd : Int) (cd ot nm : ByteArray) (yr am pc nu dy ls wh : Int) (p : ByteArray) (w : World) (hL : Lay w) (b0 : -9223372036854775808 ≤ am) (b1 : am ≤ 9223372036854775807) (e0 : (p.toList == [67, 79, 68, 69]) = false) (e1 : (p.toList == [79, 84, 72, 69, 82]) = false) (e2 : (p.toList == [78, 65, 77, 69]) = false) (e3 : (p.toList == [89, 69, 65, 82]) = false) (e4 : (p.toList == [83, 80, 65, 78]) = false) (e5 : (p.toList == [65, 77, 79, 85, 78, 84]) = false) (e6 : (p.toList == [76, 73, 77, 73, 84]) = true) :
    Calls Tryz.prog 55 #[.agg #[.int .i64 kd, .string cd, .string ot, .string nm, .int .i64 yr, .int .i64 am, .int .i64 pc, .int .i64 nu, .int .i64 dy, .int .i64 ls, .int .i64 wh], .string p] w fun e w' => e = .returned (.string (numOr am noneT)) ∧ Below w.heap.size w w' := by
  have HI := Lib.hid (fun o => numberOr_any am noneT (w.alloc o) (hL.below (below_alloc w o) (Nat.le_refl _)) b0 b1)
  clear b0 b1 hL
  unfold noneT at HI ⊢
  go_enter Tryz.func55, Tryz.ntmps55
  go_wp2_with fail
  refine (HI.out _).mono ?_
  rintro e w1 ⟨rfl, hb⟩
  go_wp2
  go_ret
  exact ⟨rfl, (below_alloc _ _).trans (hb.mono (below_alloc _ _).size)⟩

set_option maxRecDepth 100000 in
set_option maxHeartbeats 1000000 in
theorem word_least (kd : Int) (cd ot nm : ByteArray) (yr am pc nu dy ls wh : Int) (p : ByteArray) (w : World) (hL : Lay w) (b0 : -9223372036854775808 ≤ ls) (b1 : ls ≤ 9223372036854775807) (e0 : (p.toList == [67, 79, 68, 69]) = false) (e1 : (p.toList == [79, 84, 72, 69, 82]) = false) (e2 : (p.toList == [78, 65, 77, 69]) = false) (e3 : (p.toList == [89, 69, 65, 82]) = false) (e4 : (p.toList == [83, 80, 65, 78]) = false) (e5 : (p.toList == [65, 77, 79, 85, 78, 84]) = false) (e6 : (p.toList == [76, 73, 77, 73, 84]) = false) (e7 : (p.toList == [76, 69, 65, 83, 84]) = true) :
    Calls Tryz.prog 55 #[.agg #[.int .i64 kd, .string cd, .string ot, .string nm, .int .i64 yr, .int .i64 am, .int .i64 pc, .int .i64 nu, .int .i64 dy, .int .i64 ls, .int .i64 wh], .string p] w fun e w' => e = .returned (.string (itoaT ls)) ∧ Below w.heap.size w w' := by
  have HI := Lib.hid (fun o => itoa_any ls (w.alloc o) (hL.below (below_alloc w o) (Nat.le_refl _)) b0 b1)
  clear b0 b1 hL
  go_enter Tryz.func55, Tryz.ntmps55
  go_wp2_with fail
  refine (HI.out _).mono ?_
  rintro e w1 ⟨rfl, hb⟩
  go_wp2
  go_ret
  exact ⟨rfl, (below_alloc _ _).trans (hb.mono (below_alloc _ _).size)⟩

set_option maxRecDepth 100000 in
set_option maxHeartbeats 1000000 in
theorem word_percent (kd : Int) (cd ot nm : ByteArray) (yr am pc nu dy ls wh : Int) (p : ByteArray) (w : World) (hL : Lay w) (b0 : -9223372036854775808 ≤ pc) (b1 : pc ≤ 9223372036854775807) (e0 : (p.toList == [67, 79, 68, 69]) = false) (e1 : (p.toList == [79, 84, 72, 69, 82]) = false) (e2 : (p.toList == [78, 65, 77, 69]) = false) (e3 : (p.toList == [89, 69, 65, 82]) = false) (e4 : (p.toList == [83, 80, 65, 78]) = false) (e5 : (p.toList == [65, 77, 79, 85, 78, 84]) = false) (e6 : (p.toList == [76, 73, 77, 73, 84]) = false) (e7 : (p.toList == [76, 69, 65, 83, 84]) = false) (e8 : (p.toList == [80, 69, 82, 67, 69, 78, 84]) = true) :
    Calls Tryz.prog 55 #[.agg #[.int .i64 kd, .string cd, .string ot, .string nm, .int .i64 yr, .int .i64 am, .int .i64 pc, .int .i64 nu, .int .i64 dy, .int .i64 ls, .int .i64 wh], .string p] w fun e w' => e = .returned (.string (itoaT pc)) ∧ Below w.heap.size w w' := by
  have HI := Lib.hid (fun o => itoa_any pc (w.alloc o) (hL.below (below_alloc w o) (Nat.le_refl _)) b0 b1)
  clear b0 b1 hL
  go_enter Tryz.func55, Tryz.ntmps55
  go_wp2_with fail
  refine (HI.out _).mono ?_
  rintro e w1 ⟨rfl, hb⟩
  go_wp2
  go_ret
  exact ⟨rfl, (below_alloc _ _).trans (hb.mono (below_alloc _ _).size)⟩

set_option maxRecDepth 100000 in
set_option maxHeartbeats 1000000 in
theorem word_number (kd : Int) (cd ot nm : ByteArray) (yr am pc nu dy ls wh : Int) (p : ByteArray) (w : World) (hL : Lay w) (b0 : -9223372036854775808 ≤ nu) (b1 : nu ≤ 9223372036854775807) (e0 : (p.toList == [67, 79, 68, 69]) = false) (e1 : (p.toList == [79, 84, 72, 69, 82]) = false) (e2 : (p.toList == [78, 65, 77, 69]) = false) (e3 : (p.toList == [89, 69, 65, 82]) = false) (e4 : (p.toList == [83, 80, 65, 78]) = false) (e5 : (p.toList == [65, 77, 79, 85, 78, 84]) = false) (e6 : (p.toList == [76, 73, 77, 73, 84]) = false) (e7 : (p.toList == [76, 69, 65, 83, 84]) = false) (e8 : (p.toList == [80, 69, 82, 67, 69, 78, 84]) = false) (e9 : (p.toList == [78, 85, 77, 66, 69, 82]) = true) :
    Calls Tryz.prog 55 #[.agg #[.int .i64 kd, .string cd, .string ot, .string nm, .int .i64 yr, .int .i64 am, .int .i64 pc, .int .i64 nu, .int .i64 dy, .int .i64 ls, .int .i64 wh], .string p] w fun e w' => e = .returned (.string (itoaT nu)) ∧ Below w.heap.size w w' := by
  have HI := Lib.hid (fun o => itoa_any nu (w.alloc o) (hL.below (below_alloc w o) (Nat.le_refl _)) b0 b1)
  clear b0 b1 hL
  go_enter Tryz.func55, Tryz.ntmps55
  go_wp2_with fail
  refine (HI.out _).mono ?_
  rintro e w1 ⟨rfl, hb⟩
  go_wp2
  go_ret
  exact ⟨rfl, (below_alloc _ _).trans (hb.mono (below_alloc _ _).size)⟩

set_option maxRecDepth 100000 in
set_option maxHeartbeats 1000000 in
theorem word_count (kd : Int) (cd ot nm : ByteArray) (yr am pc nu dy ls wh : Int) (p : ByteArray) (w : World) (hL : Lay w) (b0 : -9223372036854775808 ≤ nu) (b1 : nu ≤ 9223372036854775807) (e0 : (p.toList == [67, 79, 68, 69]) = false) (e1 : (p.toList == [79, 84, 72, 69, 82]) = false) (e2 : (p.toList == [78, 65, 77, 69]) = false) (e3 : (p.toList == [89, 69, 65, 82]) = false) (e4 : (p.toList == [83, 80, 65, 78]) = false) (e5 : (p.toList == [65, 77, 79, 85, 78, 84]) = false) (e6 : (p.toList == [76, 73, 77, 73, 84]) = false) (e7 : (p.toList == [76, 69, 65, 83, 84]) = false) (e8 : (p.toList == [80, 69, 82, 67, 69, 78, 84]) = false) (e9 : (p.toList == [78, 85, 77, 66, 69, 82]) = false) (e10 : (p.toList == [67, 79, 85, 78, 84]) = true) :
    Calls Tryz.prog 55 #[.agg #[.int .i64 kd, .string cd, .string ot, .string nm, .int .i64 yr, .int .i64 am, .int .i64 pc, .int .i64 nu, .int .i64 dy, .int .i64 ls, .int .i64 wh], .string p] w fun e w' => e = .returned (.string (itoaT nu)) ∧ Below w.heap.size w w' := by
  have HI := Lib.hid (fun o => itoa_any nu (w.alloc o) (hL.below (below_alloc w o) (Nat.le_refl _)) b0 b1)
  clear b0 b1 hL
  go_enter Tryz.func55, Tryz.ntmps55
  go_wp2_with fail
  refine (HI.out _).mono ?_
  rintro e w1 ⟨rfl, hb⟩
  go_wp2
  go_ret
  exact ⟨rfl, (below_alloc _ _).trans (hb.mono (below_alloc _ _).size)⟩

set_option maxRecDepth 100000 in
set_option maxHeartbeats 1000000 in
theorem word_day (kd : Int) (cd ot nm : ByteArray) (yr am pc nu dy ls wh : Int) (p : ByteArray) (w : World) (hL : Lay w) (e0 : (p.toList == [67, 79, 68, 69]) = false) (e1 : (p.toList == [79, 84, 72, 69, 82]) = false) (e2 : (p.toList == [78, 65, 77, 69]) = false) (e3 : (p.toList == [89, 69, 65, 82]) = false) (e4 : (p.toList == [83, 80, 65, 78]) = false) (e5 : (p.toList == [65, 77, 79, 85, 78, 84]) = false) (e6 : (p.toList == [76, 73, 77, 73, 84]) = false) (e7 : (p.toList == [76, 69, 65, 83, 84]) = false) (e8 : (p.toList == [80, 69, 82, 67, 69, 78, 84]) = false) (e9 : (p.toList == [78, 85, 77, 66, 69, 82]) = false) (e10 : (p.toList == [67, 79, 85, 78, 84]) = false) (e11 : (p.toList == [68, 65, 89]) = true) :
    Calls Tryz.prog 55 #[.agg #[.int .i64 kd, .string cd, .string ot, .string nm, .int .i64 yr, .int .i64 am, .int .i64 pc, .int .i64 nu, .int .i64 dy, .int .i64 ls, .int .i64 wh], .string p] w fun e w' => e = .returned (.string (dayT dy)) ∧ Below w.heap.size w w' := by
  have HI := Lib.hid (fun o => cText_art dy (w.alloc o) (hL.below (below_alloc w o) (Nat.le_refl _)))
  clear hL
  go_enter Tryz.func55, Tryz.ntmps55
  go_wp2_with fail
  refine (HI.out _).mono ?_
  rintro e w1 ⟨rfl, hb⟩
  go_wp2
  go_ret
  exact ⟨rfl, (below_alloc _ _).trans (hb.mono (below_alloc _ _).size)⟩

set_option maxRecDepth 100000 in
set_option maxHeartbeats 1000000 in
theorem word_lit (kd : Int) (cd ot nm : ByteArray) (yr am pc nu dy ls wh : Int) (p : ByteArray) (w : World) (_ : Lay w) (e0 : (p.toList == [67, 79, 68, 69]) = false) (e1 : (p.toList == [79, 84, 72, 69, 82]) = false) (e2 : (p.toList == [78, 65, 77, 69]) = false) (e3 : (p.toList == [89, 69, 65, 82]) = false) (e4 : (p.toList == [83, 80, 65, 78]) = false) (e5 : (p.toList == [65, 77, 79, 85, 78, 84]) = false) (e6 : (p.toList == [76, 73, 77, 73, 84]) = false) (e7 : (p.toList == [76, 69, 65, 83, 84]) = false) (e8 : (p.toList == [80, 69, 82, 67, 69, 78, 84]) = false) (e9 : (p.toList == [78, 85, 77, 66, 69, 82]) = false) (e10 : (p.toList == [67, 79, 85, 78, 84]) = false) (e11 : (p.toList == [68, 65, 89]) = false) :
    Calls Tryz.prog 55 #[.agg #[.int .i64 kd, .string cd, .string ot, .string nm, .int .i64 yr, .int .i64 am, .int .i64 pc, .int .i64 nu, .int .i64 dy, .int .i64 ls, .int .i64 wh], .string p] w fun e w' => e = .returned (.string p) ∧ Below w.heap.size w w' := by
  go_enter Tryz.func55, Tryz.ntmps55
  go_wp2
  go_ret
  exact ⟨rfl, below_alloc _ _⟩

end Go.Proofs.YtdedihdkkaoapaaGreatDoor

/- Facts of the twelve forms: their words, their blanks; and of cutting a text at more blanks than it has; of no function of the program; no condition. -/
namespace Go.Proofs.YtdedihdkkaoapaaGreatDoor
open Go.RowKit Go.Lib Go.Proofs

/-- The words that stand for fields. -/
def fieldL : List (List UInt8) := [[67, 79, 68, 69], [79, 84, 72, 69, 82], [78, 65, 77, 69], [89, 69, 65, 82], [83, 80, 65, 78], [65, 77, 79, 85, 78, 84], [76, 73, 77, 73, 84], [76, 69, 65, 83, 84], [80, 69, 82, 67, 69, 78, 84], [78, 85, 77, 66, 69, 82], [67, 79, 85, 78, 84], [68, 65, 89]]

/-- A part that stands for itself is no field's word. -/
def litOk : Fd → Bool
  | .lit w => !fieldL.contains w.data.toList
  | _ => true

set_option maxRecDepth 100000 in
theorem forms_parts : ∀ f ∈ formsL, f.parts.isEmpty = false ∧ f.parts.all litOk = true ∧ (f.parts.all fun p => !p.text.data.toList.contains 32) = true := by decide
set_option maxRecDepth 100000 in
theorem forms_count : ∀ f ∈ formsL, f.text.data.toList.count 32 = f.parts.length - 1 := by decide
set_option maxRecDepth 100000 in
theorem forms_small : ∀ f ∈ formsL, f.text.size ≤ 100 ∧ f.parts.length ≤ 7 := by decide

theorem txt_text (p : Fd) : txt p.text.data.toList = p.text := txt_back _

/-- The words of a form are those of its parts. -/
theorem form_words {f : Form} (hf : f ∈ formsL) : wordsB 32 f.text = f.parts.map Fd.text := by
  obtain ⟨h1, _, h3⟩ := forms_parts f hf
  unfold wordsB Form.text
  rw [txt_list, words_join]
  · rw [List.map_map]
    refine List.map_congr_left fun p _ => txt_back _
  · intro e
    have := List.map_eq_nil_iff.1 e
    rw [this] at h1
    cases h1
  · intro w hw
    obtain ⟨p, hp, rfl⟩ := List.mem_map.1 hw
    have := List.all_eq_true.1 h3 p hp
    simpa using this

/-- More cuts than bytes make no difference. -/
theorem cutK_sat : ∀ (n k : Nat) (l : List UInt8), l.length ≤ n → l.length ≤ k → cutK k l = cutK l.length l := by
  intro n
  induction n with
  | zero =>
    intro k l hn hk
    have : l = [] := List.length_eq_zero_iff.1 (by omega)
    subst this
    rw [cutK_no _ (by simp), cutK_no _ (by simp)]
  | succ n ih =>
    intro k l hn hk
    by_cases h : (32 : UInt8) ∈ l
    · rcases indexByte_cases l 32 with ⟨_, h2⟩ | ⟨i, h1, h2, h3, h4⟩
      · exact absurd h h2
      · have e : l = l.take i ++ 32 :: l.drop (i + 1) := by rw [← h4, List.take_append_drop]
        have hr : (l.drop (i + 1)).length ≤ l.length - 1 := by rw [List.length_drop]; omega
        obtain ⟨k', rfl⟩ : ∃ k', k = k' + 1 := ⟨k - 1, by omega⟩
        obtain ⟨m, hm⟩ : ∃ m, l.length = m + 1 := ⟨l.length - 1, by omega⟩
        rw [hm, e, cutK_hit _ h3, cutK_hit _ h3, ih k' _ (by omega) (by omega), ih m (l.drop (i + 1)) (by omega) (by omega)]
    · rw [cutK_no _ h, cutK_no _ h]

/-- What SplitN gives at a blank. -/
theorem splitN_cut (t : ByteArray) (n : Nat) : splitB ⟨#[32]⟩ 0 (min n (t.size + 1) - 1) t = (cutK (n - 1) t.data.toList).map txt := by
  have h := splitB_data ⟨#[32]⟩ 0 (min n (t.size + 1) - 1) t
  have h2 : splitK (⟨#[32]⟩ : ByteArray).data.toList 0 (min n (t.size + 1) - 1) t.data.toList = cutK (n - 1) t.data.toList := by
    show cutK (min n (t.size + 1) - 1) t.data.toList = _
    by_cases hc : n ≤ t.size + 1
    · rw [Nat.min_eq_left hc]
    · rw [Nat.min_eq_right (by omega), cutK_sat _ (n - 1) t.data.toList (Nat.le_refl _) (by rw [← size_list]; omega), size_list]
      rfl
  rw [h2] at h
  rw [← h, List.map_map]
  exact (List.map_id'' (fun s => txt_back s) _).symm

theorem splitK_ne (k : Nat) (l : List UInt8) : cutK k l ≠ [] := by
  cases k with
  | zero => simp [cutK, splitK]
  | succ k => unfold cutK splitK; split <;> simp

theorem splitK_len : ∀ (k : Nat) (l : List UInt8), (cutK k l).length ≤ k + 1
  | 0, l => by simp [cutK, splitK]
  | k + 1, l => by
    unfold cutK splitK
    split
    · simp
    · have := splitK_len k (l.drop ((index l [32]).toNat + [(32 : UInt8)].length))
      unfold cutK at this
      rw [List.length_cons]
      omega

theorem splitK_len2 : ∀ (k : Nat) (l : List UInt8), (cutK k l).length ≤ l.length + 1
  | 0, l => by simp [cutK, splitK]
  | k + 1, l => by
    by_cases h : (32 : UInt8) ∈ l
    · rcases indexByte_cases l 32 with ⟨_, h2⟩ | ⟨i, h1, h2, h3, h4⟩
      · exact absurd h h2
      · have e : l = l.take i ++ 32 :: l.drop (i + 1) := by rw [← h4, List.take_append_drop]
        have hr : (l.drop (i + 1)).length = l.length - (i + 1) := List.length_drop
        have ih := splitK_len2 k (l.drop (i + 1))
        rw [e, cutK_hit _ h3, List.length_cons, ← e]
        omega
    · rw [cutK_no _ h]; simp

theorem splitK_sizes : ∀ (k : Nat) (l : List UInt8), ∀ x ∈ cutK k l, x.length ≤ l.length
  | 0, l => by intro x hx; simp [cutK, splitK] at hx; rw [hx]; exact Nat.le_refl _
  | k + 1, l => by
    intro x hx
    unfold cutK splitK at hx
    split at hx
    · rw [List.mem_singleton.1 hx]; exact Nat.le_refl _
    · rcases List.mem_cons.1 hx with rfl | hx
      · rw [List.length_take]; omega
      · have := splitK_sizes k _ x hx
        rw [List.length_drop] at this
        omega

end Go.Proofs.YtdedihdkkaoapaaGreatDoor

/- Contracts of article.take and word for every part of a form. -/
namespace Go.Proofs.YtdedihdkkaoapaaGreatDoor
open Go.RowKit Go.Lib Go.Proofs

theorem ne_of_list {a : ByteArray} {l : List UInt8} (h : a.data.toList ≠ l) : (a.toList == l) = false := by rw [ByteArray.toList_eq, beq_eq_false_iff_ne]; exact h
theorem eq_of_list {a : ByteArray} {l : List UInt8} (h : a.data.toList = l) : (a.toList == l) = true := by rw [ByteArray.toList_eq, h]; exact beq_self_eq_true _

/-- A word that is no field's. -/
structure NoField (p : ByteArray) : Prop where
  e0 : (p.toList == [67, 79, 68, 69]) = false
  e1 : (p.toList == [79, 84, 72, 69, 82]) = false
  e2 : (p.toList == [78, 65, 77, 69]) = false
  e3 : (p.toList == [89, 69, 65, 82]) = false
  e4 : (p.toList == [83, 80, 65, 78]) = false
  e5 : (p.toList == [65, 77, 79, 85, 78, 84]) = false
  e6 : (p.toList == [76, 73, 77, 73, 84]) = false
  e7 : (p.toList == [76, 69, 65, 83, 84]) = false
  e8 : (p.toList == [80, 69, 82, 67, 69, 78, 84]) = false
  e9 : (p.toList == [78, 85, 77, 66, 69, 82]) = false
  e10 : (p.toList == [67, 79, 85, 78, 84]) = false
  e11 : (p.toList == [68, 65, 89]) = false

theorem noField {w : ByteArray} (h : litOk (.lit w) = true) : NoField w := by
  have hm : ∀ l ∈ fieldL, w.data.toList ≠ l := fun l hl e => by
    have h' : (!fieldL.contains w.data.toList) = true := h
    rw [e] at h'
    simp [hl] at h'
  exact ⟨ne_of_list (hm _ (by simp [fieldL])), ne_of_list (hm _ (by simp [fieldL])), ne_of_list (hm _ (by simp [fieldL])), ne_of_list (hm _ (by simp [fieldL])), ne_of_list (hm _ (by simp [fieldL])), ne_of_list (hm _ (by simp [fieldL])), ne_of_list (hm _ (by simp [fieldL])), ne_of_list (hm _ (by simp [fieldL])), ne_of_list (hm _ (by simp [fieldL])), ne_of_list (hm _ (by simp [fieldL])), ne_of_list (hm _ (by simp [fieldL])), ne_of_list (hm _ (by simp [fieldL]))⟩

theorem take_any (a : Art) (f : Fd) (hf : litOk f = true) (x : ByteArray) (b : Nat) (w : World) (hL : Lay w) (hs : x.size ≤ 1000000) (ha : ArtAt w b a) :
    Calls Tryz.prog 59 #[.pointer (some ⟨b, 0, none⟩), .string f.text, .string x] w (TakePost w b (takeOf a f x)) := by
  obtain ⟨kd, cd, ot, nm, yr, am, pc, nu, dy, ls, wh⟩ := a
  cases f with
  | code => exact take_code kd cd ot nm yr am pc nu dy ls wh _ x b w hL hs ha (eq_of_list rfl)
  | other => exact take_other kd cd ot nm yr am pc nu dy ls wh _ x b w hL hs ha (ne_of_list (by decide)) (eq_of_list rfl)
  | name => exact take_name kd cd ot nm yr am pc nu dy ls wh _ x b w hL hs ha (ne_of_list (by decide)) (ne_of_list (by decide)) (eq_of_list rfl)
  | year => exact take_year kd cd ot nm yr am pc nu dy ls wh _ x b w hL hs ha (ne_of_list (by decide)) (ne_of_list (by decide)) (ne_of_list (by decide)) (eq_of_list rfl)
  | span => exact take_span kd cd ot nm yr am pc nu dy ls wh _ x b w hL hs ha (ne_of_list (by decide)) (ne_of_list (by decide)) (ne_of_list (by decide)) (ne_of_list (by decide)) (eq_of_list rfl)
  | amount => exact take_amount kd cd ot nm yr am pc nu dy ls wh _ x b w hL hs ha (ne_of_list (by decide)) (ne_of_list (by decide)) (ne_of_list (by decide)) (ne_of_list (by decide)) (ne_of_list (by decide)) (eq_of_list rfl)
  | limit => exact take_limit kd cd ot nm yr am pc nu dy ls wh _ x b w hL hs ha (ne_of_list (by decide)) (ne_of_list (by decide)) (ne_of_list (by decide)) (ne_of_list (by decide)) (ne_of_list (by decide)) (ne_of_list (by decide)) (eq_of_list rfl)
  | least => exact take_least kd cd ot nm yr am pc nu dy ls wh _ x b w hL hs ha (ne_of_list (by decide)) (ne_of_list (by decide)) (ne_of_list (by decide)) (ne_of_list (by decide)) (ne_of_list (by decide)) (ne_of_list (by decide)) (ne_of_list (by decide)) (eq_of_list rfl)
  | percent => exact take_percent kd cd ot nm yr am pc nu dy ls wh _ x b w hL hs ha (ne_of_list (by decide)) (ne_of_list (by decide)) (ne_of_list (by decide)) (ne_of_list (by decide)) (ne_of_list (by decide)) (ne_of_list (by decide)) (ne_of_list (by decide)) (ne_of_list (by decide)) (eq_of_list rfl)
  | number => exact take_number kd cd ot nm yr am pc nu dy ls wh _ x b w hL hs ha (ne_of_list (by decide)) (ne_of_list (by decide)) (ne_of_list (by decide)) (ne_of_list (by decide)) (ne_of_list (by decide)) (ne_of_list (by decide)) (ne_of_list (by decide)) (ne_of_list (by decide)) (ne_of_list (by decide)) (eq_of_list rfl)
  | count => exact take_count kd cd ot nm yr am pc nu dy ls wh _ x b w hL hs ha (ne_of_list (by decide)) (ne_of_list (by decide)) (ne_of_list (by decide)) (ne_of_list (by decide)) (ne_of_list (by decide)) (ne_of_list (by decide)) (ne_of_list (by decide)) (ne_of_list (by decide)) (ne_of_list (by decide)) (ne_of_list (by decide)) (eq_of_list rfl)
  | day => exact take_day kd cd ot nm yr am pc nu dy ls wh _ x b w hL hs ha (ne_of_list (by decide)) (ne_of_list (by decide)) (ne_of_list (by decide)) (ne_of_list (by decide)) (ne_of_list (by decide)) (ne_of_list (by decide)) (ne_of_list (by decide)) (ne_of_list (by decide)) (ne_of_list (by decide)) (ne_of_list (by decide)) (ne_of_list (by decide)) (eq_of_list rfl)
  | lit p =>
    have h := noField hf
    exact take_lit _ p x b w ha h.e0 h.e1 h.e2 h.e3 h.e4 h.e5 h.e6 h.e7 h.e8 h.e9 h.e10 h.e11

/-- The numbers of an article that is written are int64s, and its day is one. -/
structure ArtBd (a : Art) : Prop where
  y0 : -9223372036854775808 ≤ a.year
  y1 : a.year ≤ 9223372036854775807
  a0 : -9223372036854775808 ≤ a.amount
  a1 : a.amount ≤ 9223372036854775807
  p0 : -9223372036854775808 ≤ a.percent
  p1 : a.percent ≤ 9223372036854775807
  n0 : -9223372036854775808 ≤ a.number
  n1 : a.number ≤ 9223372036854775807
  l0 : -9223372036854775808 ≤ a.least
  l1 : a.least ≤ 9223372036854775807

theorem word_any (a : Art) (f : Fd) (hf : litOk f = true) (w : World) (hL : Lay w) (hb : ArtBd a) :
    Calls Tryz.prog 55 #[.agg a.cells, .string f.text] w fun e w' => e = .returned (.string (wordOf a f)) ∧ Below w.heap.size w w' := by
  obtain ⟨kd, cd, ot, nm, yr, am, pc, nu, dy, ls, wh⟩ := a
  cases f with
  | code => exact word_code kd cd ot nm yr am pc nu dy ls wh _ w hL  (eq_of_list rfl)
  | other => exact word_other kd cd ot nm yr am pc nu dy ls wh _ w hL  (ne_of_list (by decide)) (eq_of_list rfl)
  | name => exact word_name kd cd ot nm yr am pc nu dy ls wh _ w hL  (ne_of_list (by decide)) (ne_of_list (by decide)) (eq_of_list rfl)
  | year => exact word_year kd cd ot nm yr am pc nu dy ls wh _ w hL hb.y0 hb.y1 (ne_of_list (by decide)) (ne_of_list (by decide)) (ne_of_list (by decide)) (eq_of_list rfl)
  | span => exact word_span kd cd ot nm yr am pc nu dy ls wh _ w hL hb.y0 hb.y1 (ne_of_list (by decide)) (ne_of_list (by decide)) (ne_of_list (by decide)) (ne_of_list (by decide)) (eq_of_list rfl)
  | amount => exact word_amount kd cd ot nm yr am pc nu dy ls wh _ w hL hb.a0 hb.a1 (ne_of_list (by decide)) (ne_of_list (by decide)) (ne_of_list (by decide)) (ne_of_list (by decide)) (ne_of_list (by decide)) (eq_of_list rfl)
  | limit => exact word_limit kd cd ot nm yr am pc nu dy ls wh _ w hL hb.a0 hb.a1 (ne_of_list (by decide)) (ne_of_list (by decide)) (ne_of_list (by decide)) (ne_of_list (by decide)) (ne_of_list (by decide)) (ne_of_list (by decide)) (eq_of_list rfl)
  | least => exact word_least kd cd ot nm yr am pc nu dy ls wh _ w hL hb.l0 hb.l1 (ne_of_list (by decide)) (ne_of_list (by decide)) (ne_of_list (by decide)) (ne_of_list (by decide)) (ne_of_list (by decide)) (ne_of_list (by decide)) (ne_of_list (by decide)) (eq_of_list rfl)
  | percent => exact word_percent kd cd ot nm yr am pc nu dy ls wh _ w hL hb.p0 hb.p1 (ne_of_list (by decide)) (ne_of_list (by decide)) (ne_of_list (by decide)) (ne_of_list (by decide)) (ne_of_list (by decide)) (ne_of_list (by decide)) (ne_of_list (by decide)) (ne_of_list (by decide)) (eq_of_list rfl)
  | number => exact word_number kd cd ot nm yr am pc nu dy ls wh _ w hL hb.n0 hb.n1 (ne_of_list (by decide)) (ne_of_list (by decide)) (ne_of_list (by decide)) (ne_of_list (by decide)) (ne_of_list (by decide)) (ne_of_list (by decide)) (ne_of_list (by decide)) (ne_of_list (by decide)) (ne_of_list (by decide)) (eq_of_list rfl)
  | count => exact word_count kd cd ot nm yr am pc nu dy ls wh _ w hL hb.n0 hb.n1 (ne_of_list (by decide)) (ne_of_list (by decide)) (ne_of_list (by decide)) (ne_of_list (by decide)) (ne_of_list (by decide)) (ne_of_list (by decide)) (ne_of_list (by decide)) (ne_of_list (by decide)) (ne_of_list (by decide)) (ne_of_list (by decide)) (eq_of_list rfl)
  | day => exact word_day kd cd ot nm yr am pc nu dy ls wh _ w hL (ne_of_list (by decide)) (ne_of_list (by decide)) (ne_of_list (by decide)) (ne_of_list (by decide)) (ne_of_list (by decide)) (ne_of_list (by decide)) (ne_of_list (by decide)) (ne_of_list (by decide)) (ne_of_list (by decide)) (ne_of_list (by decide)) (ne_of_list (by decide)) (eq_of_list rfl)
  | lit p =>
    have h := noField hf
    exact word_lit kd cd ot nm yr am pc nu dy ls wh p w hL h.e0 h.e1 h.e2 h.e3 h.e4 h.e5 h.e6 h.e7 h.e8 h.e9 h.e10 h.e11

end Go.Proofs.YtdedihdkkaoapaaGreatDoor
