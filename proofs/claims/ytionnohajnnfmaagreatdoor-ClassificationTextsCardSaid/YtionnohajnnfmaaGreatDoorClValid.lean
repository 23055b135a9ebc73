/- Contracts of classification.headingFault, fault and Valid: the first error that applies to a list of headings, and the number of its heading; for lists of up to 10^6 headings with texts of up to 10^6 bytes. -/
import Derived.Test.YtionnohajnnfmaaGreatDoorClHas
import Derived.Test.YtionnohajnnfmaaGreatDoorClName
import Derived.StillTailTactics
import Derived.IntWalk
namespace Go.Proofs.YtionnohajnnfmaaGreatDoor
open Go.RowKit Go.Lib Go.Proofs

/-- The code of heading i of a list. -/
def codeAt (hs : List Head) (i : Nat) : ByteArray := match hs[i]? with
  | some g => g.1
  | none => ⟨#[]⟩
theorem codeAt_eq {hs : List Head} {i : Nat} (h : i < hs.length) : codeAt hs i = hs[i].1 := by unfold codeAt; rw [List.getElem?_eq_getElem h]

/-- The first error that applies to heading i of a list. -/
def headFault (hs : List Head) (i : Nat) : Int :=
  match hs[i]? with
  | none => 0
  | some h =>
    if isCodeB h.1 = false then 5
    else if nameB h.2 = false then 4
    else if 0 < i ∧ (0 : Int) ≤ cmpCode (codeAt hs (i - 1)) h.1 then 8
    else if hasParentB hs h.1 = false then 6
    else 0

theorem row_head {w : World} {b o : Nat} {hs : List Head} (hc : ∀ j, j < hs.length * 2 → w.cell? ⟨b, o + j, none⟩ = (cellsH hs)[j]?) {k : Nat} (hk : k < hs.length) :
    w.cell? ⟨b, o + k * 2, none⟩ = some (.string hs[k].1) ∧ w.cell? ⟨b, o + k * 2 + 1, none⟩ = some (.string hs[k].2) := by
  obtain ⟨g1, g2⟩ := cellsH_get hs k hk
  exact ⟨by rw [hc (k * 2) (by omega), g1], by rw [Nat.add_assoc, hc (k * 2 + 1) (by omega), g2]⟩

set_option maxRecDepth 100000 in
set_option maxHeartbeats 4000000 in
theorem clheadingFault_any (hs : List Head) (v : Value) (i : Nat) (w : World) (hL : Lay w) (hr : RowG w v hs.length 2 (cellsH hs)) (hlen : hs.length ≤ 1000000) (hok : HeadsOk hs) (hi : i < hs.length) :
    Calls Tryz.prog 77 #[v, .int .i64 i] w fun e w' => e = .returned (.int .i64 (headFault hs i)) ∧ Below w.heap.size w w' := by
  have hr0 := hr
  obtain ⟨_, ao, cap, rfl, hcap, hc⟩ := hr0
  rcases hc with hc | ⟨b, o, rfl, hb, hc⟩
  · omega
  obtain ⟨c1, c2⟩ := row_head hc hi
  obtain ⟨k1, k2⟩ := hok hs[i] (List.getElem_mem hi)
  obtain ⟨x, hx⟩ : ∃ x, x = hs[i] := ⟨_, rfl⟩
  have hf : headFault hs i = if isCodeB x.1 = false then 5
    else if nameB x.2 = false then 4
    else if 0 < i ∧ (0 : Int) ≤ cmpCode (codeAt hs (i - 1)) x.1 then 8
    else if hasParentB hs x.1 = false then 6
    else 0 := by unfold headFault; rw [List.getElem?_eq_getElem hi, ← hx]
  rw [← hx] at c1 c2 k1 k2
  obtain ⟨c, d⟩ := x
  simp only at c1 c2 k1 k2 hf
  rw [hf]
  have hLa : ∀ o, Lay (w.alloc o) := fun o => hL.below (below_alloc w o) (Nat.le_refl _)
  have hLb : ∀ W, Below w.heap.size w W → Lay W := fun W h => hL.below h (Nat.le_refl _)
  have HCODE := Lib.hid (fun o => clisCode_any c (w.alloc o) (hLa o) k1)
  have HNAME := Lib.hid (fun W => clisName_any d W k2)
  have HPAR := Lib.hid (fun W (h : Below w.heap.size w W) => clhasParent_any hs _ c W (hLb W h) (hr.below h) hlen k1)
  have hstep : ∀ (W : World), Below (w.alloc (.cells #[.string c, .string d] 37)).heap.size (w.alloc (.cells #[.string c, .string d] 37)) W → Below w.heap.size w W ∧ W.cell? ⟨w.heap.size, 0, none⟩ = some (.string c) ∧ W.cell? ⟨w.heap.size, 1, none⟩ = some (.string d) := fun W hW =>
    ⟨(below_alloc w _).trans (hW.mono (below_alloc w _).size), by rw [hW.cell (p := ⟨w.heap.size, 0, none⟩) (by simp)]; simp, by rw [hW.cell (p := ⟨w.heap.size, 1, none⟩) (by simp)]; simp⟩
  have HSTEP := Lib.hid hstep
  have hi0 : (i : Int) < (hs.length : Int) := by omega
  generalize hasParentB hs c = pr at *
  cases hq : isCodeB c with
  | false =>
    rw [hq] at HCODE
    rw [if_pos rfl]
    clear hq hf hx hL hr hc hLa hLb hok hstep
    go_enter Tryz.func77, Tryz.ntmps77
    go_wp2_with fail
    refine (HCODE.out _).mono ?_
    rintro e w1 ⟨rfl, hb1⟩
    obtain ⟨q1, q2, q3⟩ := HSTEP.out _ hb1
    go_wp2
    go_ret
    exact ⟨rfl, q1⟩
  | true =>
    rw [hq] at HCODE
    rw [if_neg (by decide)]
    cases hn : nameB d with
    | false =>
      rw [hn] at HNAME
      rw [if_pos rfl]
      clear hq hf hx hL hr hc hLa hLb hok hn hstep
      go_enter Tryz.func77, Tryz.ntmps77
      go_wp2_with fail
      refine (HCODE.out _).mono ?_
      rintro e w1 ⟨rfl, hb1⟩
      obtain ⟨q1, q2, q3⟩ := HSTEP.out _ hb1
      have HB1 := Lib.hid hb1
      clear hb1
      go_wp2_with fail
      refine (HNAME.out _).mono ?_
      rintro e w2 ⟨rfl, hb2⟩
      have hb3 := q1.trans (hb2.mono q1.size)
      go_wp2
      go_ret
      exact ⟨rfl, hb3⟩
    | true =>
      rw [hn] at HNAME
      rw [if_neg (by decide)]
      by_cases hz : i = 0
      · subst hz
        simp only [Nat.zero_mul, Nat.add_zero] at c1 c2
        rw [if_neg (fun h => absurd h.1 (Nat.lt_irrefl _))]
        clear hq hf hx hL hr hc hLa hLb hok hn hstep
        go_enter Tryz.func77, Tryz.ntmps77
        go_wp2_with fail
        refine (HCODE.out _).mono ?_
        rintro e w1 ⟨rfl, hb1⟩
        obtain ⟨q1, q2, q3⟩ := HSTEP.out _ hb1
        have HB1 := Lib.hid hb1
        clear hb1
        go_wp2_with fail
        refine (HNAME.out _).mono ?_
        rintro e w2 ⟨rfl, hb2⟩
        obtain ⟨p1, p2, p3⟩ := HSTEP.out _ (HB1.out.trans (hb2.mono HB1.out.size))
        clear hb2 q1 q2 q3 HB1
        go_wp2
        go_quiet (fail)
        cases pr with
        | true =>
          go_wp2_with fail
          refine (HPAR.out _ (below_drewN p1 _)).mono ?_
          rintro e w3 ⟨rfl, hb3⟩
          have hb4 := (below_drewN p1 _).trans (hb3.mono p1.size)
          go_wp2
          go_ret
          exact ⟨rfl, hb4⟩
        | false =>
          go_wp2_with fail
          refine (HPAR.out _ (below_drewN p1 _)).mono ?_
          rintro e w3 ⟨rfl, hb3⟩
          have hb4 := (below_drewN p1 _).trans (hb3.mono p1.size)
          go_wp2
          go_ret
          exact ⟨rfl, hb4⟩
      · have hi1 : i - 1 < hs.length := by omega
        obtain ⟨d1, _⟩ := row_head hc hi1
        obtain ⟨k3, _⟩ := hok hs[i - 1] (List.getElem_mem hi1)
        rw [← codeAt_eq hi1] at d1 k3
        generalize codeAt hs (i - 1) = c' at *
        have HCMP := Lib.hid (fun W (h : Below w.heap.size w W) => clCompare_any c' c W (hLb W h) k3 k1)
        generalize cmpCode c' c = m at *
        have hipos : 0 < i := by omega
        obtain ⟨j, rfl⟩ : ∃ j, i = j + 1 := ⟨i - 1, by omega⟩
        simp only [Nat.add_sub_cancel] at d1
        have hbw := hb
        obtain ⟨r, hres⟩ : ∃ r : Int, (if 0 < j + 1 ∧ (0 : Int) ≤ m then 8 else if pr = false then 6 else 0) = r := ⟨_, rfl⟩
        rw [hres]
        have HRES := Lib.hid hres
        clear hres
        clear hq hf hx hL hr hc hLa hLb hok hn hstep
        have d1' : ∀ W, Below w.heap.size w W → W.cell? ⟨b, o + j * 2, none⟩ = some (.string c') := fun W hW => (hW.cell (p := ⟨b, o + j * 2, none⟩) hbw).trans d1
        have HD1 := Lib.hid d1'
        clear d1 d1'
        go_enter Tryz.func77, Tryz.ntmps77
        go_wp2_with fail
        refine (HCODE.out _).mono ?_
        rintro e w1 ⟨rfl, hb1⟩
        obtain ⟨q1, q2, q3⟩ := HSTEP.out _ hb1
        have HB1 := Lib.hid hb1
        clear hb1
        go_wp2_with fail
        refine (HNAME.out _).mono ?_
        rintro e w2 ⟨rfl, hb2⟩
        obtain ⟨p1, p2, p3⟩ := HSTEP.out _ (HB1.out.trans (hb2.mono HB1.out.size))
        have d2 := HD1.out _ p1
        clear hb2 q1 q2 q3 HB1
        go_wp2
        refine wp_region_still_tail 11 (by kernel_rfl) (by kernel_rfl) ?_
        simp only [List.take_succ_cons, List.take_zero, List.drop_succ_cons, List.drop_zero]
        have hj0 : (0 : Int) ≤ (j : Int) := by omega
        have hj1 : (j : Int) < (hs.length : Int) := by omega
        have hwr : IntKind.i64.wrap (j : Int) = j := IntWalk.i64_in _ (by omega)
        repeat still_step
        refine wpStill_nil ?_
        change wpList _ _ _ _ _ w2.drew
        clear hwr
        have hbd : Below w.heap.size w w2.drew := ⟨p1.os, p1.tape, p1.output, p1.size, p1.block⟩
        have e2 : w2.drew.cell? ⟨w.heap.size, 0, none⟩ = some (.string c) := p2
        generalize w2.drew = w3 at *
        clear p1 p2 p3 d2
        by_cases hm : 0 ≤ m
        · have hr8 : r = 8 := by rw [← HRES.out, if_pos ⟨by omega, hm⟩]
          subst hr8
          go_wp2_with fail
          refine (HCMP.out _ hbd).mono ?_
          rintro e w4 ⟨rfl, hb4⟩
          have hb5 := hbd.trans (hb4.mono hbd.size)
          go_wp2
          go_ret
          exact ⟨rfl, hb5⟩
        · have hres2 : r = if pr = false then 6 else 0 := by rw [← HRES.out, if_neg (fun h => hm h.2)]
          have hm2 : m < 0 := by omega
          have e3 : ∀ W, Below w3.heap.size w3 W → W.cell? ⟨w.heap.size, 0, none⟩ = some (.string c) := fun W hW => (hW.cell (p := ⟨w.heap.size, 0, none⟩) (cell_lt e2)).trans e2
          have HE3 := Lib.hid e3
          clear e3
          cases pr with
          | true =>
            rw [if_neg (by decide)] at hres2
            subst hres2
            go_wp2_with fail
            refine (HCMP.out _ hbd).mono ?_
            rintro e w4 ⟨rfl, hb4⟩
            have hb5 := hbd.trans (hb4.mono hbd.size)
            have e4 := HE3.out _ hb4
            clear hb4
            go_wp2_with fail
            refine (HPAR.out _ hb5).mono ?_
            rintro e w5 ⟨rfl, hb6⟩
            have hb7 := hb5.trans (hb6.mono hb5.size)
            go_wp2
            go_ret
            exact ⟨rfl, hb7⟩
          | false =>
            rw [if_pos rfl] at hres2
            subst hres2
            go_wp2_with fail
            refine (HCMP.out _ hbd).mono ?_
            rintro e w4 ⟨rfl, hb4⟩
            have hb5 := hbd.trans (hb4.mono hbd.size)
            have e4 := HE3.out _ hb4
            clear hb4
            go_wp2_with fail
            refine (HPAR.out _ hb5).mono ?_
            rintro e w5 ⟨rfl, hb6⟩
            have hb7 := hb5.trans (hb6.mono hb5.size)
            go_wp2
            go_ret
            exact ⟨rfl, hb7⟩

/-- The first error that applies to a list of headings, and the number of its heading. -/
def faultOf (hs : List Head) : Int × Int :=
  if 60 < hs.length then (0, 3) else match (List.range hs.length).find? fun i => decide (headFault hs i ≠ 0) with
    | some i => ((i : Int) + 1, headFault hs i)
    | none => (0, 0)

theorem faultOf_hit {hs : List Head} {k : Nat} (hn : ¬ 60 < hs.length) (hk : k < hs.length) (h : headFault hs k ≠ 0) (hall : ∀ i, i < k → headFault hs i = 0) : faultOf hs = ((k : Int) + 1, headFault hs k) := by
  unfold faultOf
  rw [if_neg hn]
  have : (List.range hs.length).find? (fun i => decide (headFault hs i ≠ 0)) = some k := by
    rw [List.find?_eq_some_iff_append]
    refine ⟨by simpa using h, List.range k, (List.range (hs.length - k - 1)).map (· + (k + 1)), ?_, ?_⟩
    · apply List.ext_getElem
      · simp; omega
      · intro i h1 h2
        by_cases hik : i < k
        · rw [List.getElem_append_left (by simpa using hik)]; simp
        · rw [List.getElem_append_right (by simpa using hik)]
          simp only [List.length_range, List.getElem_range]
          rw [List.getElem_cons]
          split
          · omega
          · simp; omega
    · intro i hi
      have := hall i (by simpa using hi)
      simp [this]
  rw [this]

theorem faultOf_none {hs : List Head} (hn : ¬ 60 < hs.length) (hall : ∀ i, i < hs.length → headFault hs i = 0) : faultOf hs = (0, 0) := by
  unfold faultOf
  rw [if_neg hn]
  have : (List.range hs.length).find? (fun i => decide (headFault hs i ≠ 0)) = none := by
    rw [List.find?_eq_none]
    intro i hi
    have := hall i (by simpa using hi)
    simp [this]
  rw [this]

set_option maxRecDepth 100000 in
set_option maxHeartbeats 4000000 in
theorem clfault_any (hs : List Head) (v : Value) (w : World) (hL : Lay w) (hr : RowG w v hs.length 2 (cellsH hs)) (hlen : hs.length ≤ 1000000) (hok : HeadsOk hs) :
    Calls Tryz.prog 38 #[v] w fun e w' => e = .returned (.tuple #[.int .i64 (faultOf hs).1, .int .i64 (faultOf hs).2]) ∧ Below w.heap.size w w' := by
  have hr0 := hr
  obtain ⟨_, ao, cap, rfl, hcap, _⟩ := hr0
  obtain ⟨x, y, hxy⟩ : ∃ x y, faultOf hs = (x, y) := ⟨_, _, rfl⟩
  rw [hxy]
  have HXY := Lib.hid hxy
  obtain ⟨n, hn⟩ : ∃ n, n = hs.length := ⟨_, rfl⟩
  have HF := Lib.hid (fun W i (h : Below w.heap.size w W) (hi : i < hs.length) => clheadingFault_any hs _ i W (hL.below h (Nat.le_refl _)) (hr.below h) hlen hok hi)
  rw [← hn] at HF hlen hcap ⊢
  have HN := Lib.hid hn
  clear hxy hL hr hok hn
  by_cases h60 : 60 < n
  · have hf : faultOf hs = (0, 3) := by unfold faultOf; rw [if_pos (by rw [← HN.out]; exact h60)]
    rw [HXY.out] at hf
    simp only [Prod.mk.injEq] at hf
    obtain ⟨rfl, rfl⟩ := hf
    have h60' : (60 : Int) < (n : Int) := by omega
    go_enter Tryz.func38, Tryz.ntmps38
    go_wp2
    go_ret2
    exact ⟨rfl, Below.refl _ _⟩
  · have h60' : (n : Int) ≤ 60 := by omega
    go_enter Tryz.func38, Tryz.ntmps38
    go_wp2
    go_loopw [11] (fun i wr => ∃ k : Nat, i = .int .i64 k ∧ k ≤ n ∧ Hid (∀ j, j < k → headFault hs j = 0) ∧ Hid (Below w.heap.size w wr)) (fun i _ => n - (RowKit.intOf i).toNat)
    case atStart => exact ⟨0, rfl, by omega, Lib.hid (fun j hj => by omega), Lib.hid (Below.refl _ _)⟩
    case round =>
      obtain ⟨k, rfl, hkn, HALL, HB⟩ := hrel
      by_cases hlt : k < n
      · have hcall := HF.out wr k HB.out hlt
        obtain ⟨z, hz⟩ : ∃ z, headFault hs k = z := ⟨_, rfl⟩
        rw [hz] at hcall
        have HCALL := Lib.hid hcall
        by_cases h0 : z = 0
        · subst h0
          have HZ := Lib.hid hz
          clear hcall hz
          go_wp2_with fail
          refine (HCALL.out).mono ?_
          rintro e w1 ⟨rfl, hb1⟩
          have HB1 := Lib.hid hb1
          clear hb1
          go_wp2
          go_roundw
          case rel => exact ⟨k + 1, by go_num, by omega, Lib.hid (fun j hj => by
            by_cases hjk : j = k
            · rw [hjk]; exact HZ.out
            · exact HALL.out j (by omega)), Lib.hid (HB.out.trans (HB1.out.mono HB.out.size))⟩
          case measure => simp [RowKit.intOf]; omega
        · have hf := faultOf_hit (by rw [← HN.out]; exact h60) (by rw [← HN.out]; exact hlt) (by rw [hz]; exact h0) HALL.out
          rw [HXY.out, hz] at hf
          simp only [Prod.mk.injEq] at hf
          obtain ⟨rfl, rfl⟩ := hf
          have hne : (y == 0) = false := by rw [beq_eq_false_iff_ne]; exact h0
          have hne2 : (y != 0) = true := by rw [bne_iff_ne]; exact h0
          clear hcall hz
          go_wp2_with fail
          refine (HCALL.out).mono ?_
          rintro e w1 ⟨rfl, hb1⟩
          have hb2 := HB.out.trans (hb1.mono HB.out.size)
          clear hb1
          go_wp2
          go_ret2
          exact ⟨rfl, hb2⟩
      · obtain rfl : k = n := by omega
        have hge : (k : Int) ≤ (k : Int) := Int.le_refl _
        have hf := faultOf_none (by rw [← HN.out]; exact h60) (fun j hj => HALL.out j (by rw [HN.out]; exact hj))
        rw [HXY.out] at hf
        simp only [Prod.mk.injEq] at hf
        obtain ⟨rfl, rfl⟩ := hf
        go_wp2
        go_ret2
        exact ⟨rfl, HB.out⟩

set_option maxHeartbeats 1000000 in
theorem clValid_any (hs : List Head) (v : Value) (w : World) (hL : Lay w) (hr : RowG w v hs.length 2 (cellsH hs)) (hlen : hs.length ≤ 1000000) (hok : HeadsOk hs) :
    Calls Tryz.prog 14 #[v] w fun e w' => e = .returned (.int .i64 (faultOf hs).2) ∧ Below w.heap.size w w' := by
  have HF := Lib.hid (clfault_any hs v w hL hr hlen hok)
  clear hL hr
  go_enter Tryz.func14, Tryz.ntmps14
  go_wp2_with fail
  refine (HF.out).mono ?_
  rintro e w1 ⟨rfl, hb⟩
  go_wp2
  go_ret
  exact ⟨rfl, hb⟩

end Go.Proofs.YtionnohajnnfmaaGreatDoor
