/- The contract of the article's reference's Compare: the same order as the program's Compare, for any two articles whose texts are of up to 10^6 bytes. -/
import Derived.Test.YtdgckdmgplpobaaGreatDoorMRtx
import Derived.Test.YtdgckdmgplpobaaGreatDoorMG8
import Derived.Test.YtdgckdmgplpobaaGreatDoorMG3
import Derived.Deep.RegionHeld3
set_option linter.unusedSimpArgs false
set_option linter.unusedVariables false
namespace Go.Proofs.YtdgckdmgplpobaaGreatDoor
open Go.RowKit Go.Lib Go.Proofs

theorem bl_cb : ∀ a b : List UInt8, Op.bytesLess a b = decide (compareBytes a b = -1)
  | [], [] => by simp [Op.bytesLess, compareBytes]
  | [], _ :: _ => by simp [Op.bytesLess, compareBytes]
  | _ :: _, [] => by simp [Op.bytesLess, compareBytes]
  | x :: a, y :: b => by
    have ih := bl_cb a b
    simp only [Op.bytesLess, compareBytes]
    by_cases h1 : x < y
    · simp [h1]
    · by_cases h2 : y < x
      · have h3 : x ≠ y := fun e => by subst e; exact h1 h2
        simp [h1, h2, h3]
      · have h3 : x = y := UInt8.toNat_inj.1 (by rw [UInt8.lt_iff_toNat_lt] at h1 h2; omega)
        subst h3
        simp [h1, ih]

theorem cb_3 : ∀ a b : List UInt8, compareBytes a b = -1 ∨ compareBytes a b = 0 ∨ compareBytes a b = 1
  | [], [] => by simp [compareBytes]
  | [], _ :: _ => by simp [compareBytes]
  | _ :: _, [] => by simp [compareBytes]
  | x :: a, y :: b => by
    have ih := cb_3 a b
    simp only [compareBytes]
    split
    · exact Or.inl rfl
    · split
      · exact Or.inr (Or.inr rfl)
      · exact ih

theorem bl_ways (x y : ByteArray) : (compareBytes x.data.toList y.data.toList = -1 ∧ Op.bytesLess x.toList y.toList = true ∧ (x.toList == y.toList) = false) ∨ (compareBytes x.data.toList y.data.toList = 0 ∧ Op.bytesLess x.toList y.toList = false ∧ (x.toList == y.toList) = true) ∨ (compareBytes x.data.toList y.data.toList = 1 ∧ Op.bytesLess x.toList y.toList = false ∧ (x.toList == y.toList) = false) := by
  rw [bl_cb, ByteArray.toList_eq, ByteArray.toList_eq]
  rcases cb_3 x.data.toList y.data.toList with h | h | h
  · exact Or.inl ⟨h, by simp [h], by rw [beq_eq_false_iff_ne]; intro e; rw [(cb_zero _ _).2 e] at h; cases h⟩
  · exact Or.inr (Or.inl ⟨h, by simp [h], by rw [beq_iff_eq]; exact (cb_zero _ _).1 h⟩)
  · exact Or.inr (Or.inr ⟨h, by simp [h], by rw [beq_eq_false_iff_ne]; intro e; rw [(cb_zero _ _).2 e] at h; cases h⟩)

theorem cb_nil_left {y : List UInt8} (h : y ≠ []) : compareBytes [] y = -1 := by
  cases y with
  | nil => exact absurd rfl h
  | cons a b => rfl
theorem cb_nil_right {y : List UInt8} (h : y ≠ []) : compareBytes y [] = 1 := by
  cases y with
  | nil => exact absurd rfl h
  | cons a b => rfl
theorem bytes_ne_nil {x : ByteArray} (h : x ≠ ⟨#[]⟩) : x.data.toList ≠ [] := fun e => h (ByteArray.ext (Array.toList_inj.1 e))

set_option maxRecDepth 100000 in
set_option maxHeartbeats 4000000 in
theorem rarCompare_any (kd : Int) (cd ot nm : ByteArray) (yr am pc nu dy ls wh : Int) (kd' : Int) (cd' ot' nm' : ByteArray) (yr' am' pc' nu' dy' ls' wh' : Int) (z1 : cd.size ≤ 1000000) (z2 : ot.size ≤ 1000000) (z3 : nm.size ≤ 1000000) (z4 : cd'.size ≤ 1000000) (z5 : ot'.size ≤ 1000000) (z6 : nm'.size ≤ 1000000) (w : World) (hL : Lay w) :
    Calls Tryz.prog 15 #[.agg #[.int .i64 kd, .string cd, .string ot, .string nm, .int .i64 yr, .int .i64 am, .int .i64 pc, .int .i64 nu, .int .i64 dy, .int .i64 ls, .int .i64 wh], .agg #[.int .i64 kd', .string cd', .string ot', .string nm', .int .i64 yr', .int .i64 am', .int .i64 pc', .int .i64 nu', .int .i64 dy', .int .i64 ls', .int .i64 wh']] w fun e w' => e = .returned (.int .i64 (cmpA ⟨kd, cd, ot, nm, yr, am, pc, nu, dy, ls, wh⟩ ⟨kd', cd', ot', nm', yr', am', pc', nu', dy', ls', wh'⟩)) ∧ Below w.heap.size w w' := by
  have hc : cmpA ⟨kd, cd, ot, nm, yr, am, pc, nu, dy, ls, wh⟩ ⟨kd', cd', ot', nm', yr', am', pc', nu', dy', ls', wh'⟩ = if textA ⟨kd, cd, ot, nm, yr, am, pc, nu, dy, ls, wh⟩ ≠ ⟨#[]⟩ ∧ textA ⟨kd', cd', ot', nm', yr', am', pc', nu', dy', ls', wh'⟩ ≠ ⟨#[]⟩ ∧ kd ≠ kd' then Lib.compareInt kd kd' else Lib.compareBytes (textA ⟨kd, cd, ot, nm, yr, am, pc, nu, dy, ls, wh⟩).data.toList (textA ⟨kd', cd', ot', nm', yr', am', pc', nu', dy', ls', wh'⟩).data.toList := rfl
  have HPX := Lib.hid (fun W (hW : CmpInv w #[.int .i64 kd, .string cd, .string ot, .string nm, .int .i64 yr, .int .i64 am, .int .i64 pc, .int .i64 nu, .int .i64 dy, .int .i64 ls, .int .i64 wh] #[.int .i64 kd', .string cd', .string ot', .string nm', .int .i64 yr', .int .i64 am', .int .i64 pc', .int .i64 nu', .int .i64 dy', .int .i64 ls', .int .i64 wh'] W) => (rplain_any kd cd ot nm yr am pc nu dy ls wh z1 z2 z3 W).mono fun e w' hp => show _ ∧ CmpInv w #[.int .i64 kd, .string cd, .string ot, .string nm, .int .i64 yr, .int .i64 am, .int .i64 pc, .int .i64 nu, .int .i64 dy, .int .i64 ls, .int .i64 wh] #[.int .i64 kd', .string cd', .string ot', .string nm', .int .i64 yr', .int .i64 am', .int .i64 pc', .int .i64 nu', .int .i64 dy', .int .i64 ls', .int .i64 wh'] w' from ⟨hp.1, hW.later hp.2⟩)
  have HPY := Lib.hid (fun W (hW : CmpInv w #[.int .i64 kd, .string cd, .string ot, .string nm, .int .i64 yr, .int .i64 am, .int .i64 pc, .int .i64 nu, .int .i64 dy, .int .i64 ls, .int .i64 wh] #[.int .i64 kd', .string cd', .string ot', .string nm', .int .i64 yr', .int .i64 am', .int .i64 pc', .int .i64 nu', .int .i64 dy', .int .i64 ls', .int .i64 wh'] W) => (rplain_any kd' cd' ot' nm' yr' am' pc' nu' dy' ls' wh' z4 z5 z6 W).mono fun e w' hp => show _ ∧ CmpInv w #[.int .i64 kd, .string cd, .string ot, .string nm, .int .i64 yr, .int .i64 am, .int .i64 pc, .int .i64 nu, .int .i64 dy, .int .i64 ls, .int .i64 wh] #[.int .i64 kd', .string cd', .string ot', .string nm', .int .i64 yr', .int .i64 am', .int .i64 pc', .int .i64 nu', .int .i64 dy', .int .i64 ls', .int .i64 wh'] w' from ⟨hp.1, hW.later hp.2⟩)
  have HTX := Lib.hid (fun W (hW : CmpInv w #[.int .i64 kd, .string cd, .string ot, .string nm, .int .i64 yr, .int .i64 am, .int .i64 pc, .int .i64 nu, .int .i64 dy, .int .i64 ls, .int .i64 wh] #[.int .i64 kd', .string cd', .string ot', .string nm', .int .i64 yr', .int .i64 am', .int .i64 pc', .int .i64 nu', .int .i64 dy', .int .i64 ls', .int .i64 wh'] W) => (rtext_any kd cd ot nm yr am pc nu dy ls wh z1 z2 z3 W (hL.below hW.old (Nat.le_refl _))).mono fun e w' hp => show _ ∧ CmpInv w #[.int .i64 kd, .string cd, .string ot, .string nm, .int .i64 yr, .int .i64 am, .int .i64 pc, .int .i64 nu, .int .i64 dy, .int .i64 ls, .int .i64 wh] #[.int .i64 kd', .string cd', .string ot', .string nm', .int .i64 yr', .int .i64 am', .int .i64 pc', .int .i64 nu', .int .i64 dy', .int .i64 ls', .int .i64 wh'] w' from ⟨hp.1, hW.later hp.2⟩)
  have HTY := Lib.hid (fun W (hW : CmpInv w #[.int .i64 kd, .string cd, .string ot, .string nm, .int .i64 yr, .int .i64 am, .int .i64 pc, .int .i64 nu, .int .i64 dy, .int .i64 ls, .int .i64 wh] #[.int .i64 kd', .string cd', .string ot', .string nm', .int .i64 yr', .int .i64 am', .int .i64 pc', .int .i64 nu', .int .i64 dy', .int .i64 ls', .int .i64 wh'] W) => (rtext_any kd' cd' ot' nm' yr' am' pc' nu' dy' ls' wh' z4 z5 z6 W (hL.below hW.old (Nat.le_refl _))).mono fun e w' hp => show _ ∧ CmpInv w #[.int .i64 kd, .string cd, .string ot, .string nm, .int .i64 yr, .int .i64 am, .int .i64 pc, .int .i64 nu, .int .i64 dy, .int .i64 ls, .int .i64 wh] #[.int .i64 kd', .string cd', .string ot', .string nm', .int .i64 yr', .int .i64 am', .int .i64 pc', .int .i64 nu', .int .i64 dy', .int .i64 ls', .int .i64 wh'] w' from ⟨hp.1, hW.later hp.2⟩)
  have HI0 := Lib.hid (CmpInv.new w #[.int .i64 kd, .string cd, .string ot, .string nm, .int .i64 yr, .int .i64 am, .int .i64 pc, .int .i64 nu, .int .i64 dy, .int .i64 ls, .int .i64 wh] #[.int .i64 kd', .string cd', .string ot', .string nm', .int .i64 yr', .int .i64 am', .int .i64 pc', .int .i64 nu', .int .i64 dy', .int .i64 ls', .int .i64 wh'])
  have hpx : plainB ⟨kd, cd, ot, nm, yr, am, pc, nu, dy, ls, wh⟩ = true ↔ textA ⟨kd, cd, ot, nm, yr, am, pc, nu, dy, ls, wh⟩ ≠ ⟨#[]⟩ := plainB_true
  have hpy : plainB ⟨kd', cd', ot', nm', yr', am', pc', nu', dy', ls', wh'⟩ = true ↔ textA ⟨kd', cd', ot', nm', yr', am', pc', nu', dy', ls', wh'⟩ ≠ ⟨#[]⟩ := plainB_true
  generalize cmpA ⟨kd, cd, ot, nm, yr, am, pc, nu, dy, ls, wh⟩ ⟨kd', cd', ot', nm', yr', am', pc', nu', dy', ls', wh'⟩ = r at *
  generalize textA ⟨kd, cd, ot, nm, yr, am, pc, nu, dy, ls, wh⟩ = x at *
  generalize textA ⟨kd', cd', ot', nm', yr', am', pc', nu', dy', ls', wh'⟩ = y at *
  generalize plainB ⟨kd, cd, ot, nm, yr, am, pc, nu, dy, ls, wh⟩ = p at *
  generalize plainB ⟨kd', cd', ot', nm', yr', am', pc', nu', dy', ls', wh'⟩ = q at *
  have HC := Lib.hid hc
  have HXN := Lib.hid hpx
  have HYN := Lib.hid hpy
  clear hc hpx hpy z1 z2 z3 z4 z5 z6 hL
  go_enter Tryz.func15, Tryz.ntmps15
  go_upto_region 1 with fail
  have HIA := HI0.out
  have hcs := HIA.cells
  go_region_held3 (fun W => (∀ j, W.cell? ⟨w.heap.size, j, none⟩ = #[.int .i64 kd, .string cd, .string ot, .string nm, .int .i64 yr, .int .i64 am, .int .i64 pc, .int .i64 nu, .int .i64 dy, .int .i64 ls, .int .i64 wh][j]?) ∧ (∀ j, W.cell? ⟨w.heap.size + 1, j, none⟩ = #[.int .i64 kd', .string cd', .string ot', .string nm', .int .i64 yr', .int .i64 am', .int .i64 pc', .int .i64 nu', .int .i64 dy', .int .i64 ls', .int .i64 wh'][j]?))
    (first | exact CmpInv.cells (by assumption) | exact CmpInv.cells (CmpInv.drew (by assumption)))
    (first
      | (go_at_call 11; (with_reducible refine (HPX.out _ (by first | assumption | exact CmpInv.drew (by assumption))).mono ?_); rintro e w' ⟨rfl, hinv⟩)
      | (go_at_call 11; (with_reducible refine (HPY.out _ (by first | assumption | exact CmpInv.drew (by assumption))).mono ?_); rintro e w' ⟨rfl, hinv⟩))
  have HI := Lib.hid hinv
  clear HIA hcs hinv HPX HPY HI0
  generalize w' = w1 at *
  cases p with
  | false =>
    have hx : x = ⟨#[]⟩ := by
      by_cases h : x = ⟨#[]⟩
      · exact h
      · exact absurd (HXN.out.2 h) (by decide)
    subst hx
    cases q with
    | false =>
      have hy : y = ⟨#[]⟩ := by
        by_cases h : y = ⟨#[]⟩
        · exact h
        · exact absurd (HYN.out.2 h) (by decide)
      subst hy
      have hr : r = 0 := by rw [HC.out, if_neg (fun h => h.1 rfl)]; rfl
      subst hr
      clear HXN HYN HC HTX HTY
      go_wp2_with fail
      go_ret
      exact ⟨rfl, HI.out.old⟩
    | true =>
      have hy := HYN.out.1 rfl
      have hr : r = -1 := by rw [HC.out, if_neg (fun h => h.1 rfl)]; exact cb_nil_left (bytes_ne_nil hy)
      subst hr
      clear HXN HYN HC HTX HTY hy
      go_wp2_with fail
      go_ret
      exact ⟨rfl, HI.out.old⟩
  | true =>
    have hx := HXN.out.1 rfl
    cases q with
    | false =>
      have hy : y = ⟨#[]⟩ := by
        by_cases h : y = ⟨#[]⟩
        · exact h
        · exact absurd (HYN.out.2 h) (by decide)
      subst hy
      have hr : r = 1 := by rw [HC.out, if_neg (fun h => h.2.1 rfl)]; exact cb_nil_right (bytes_ne_nil hx)
      subst hr
      clear HXN HYN HC HTX HTY hx
      go_wp2_with fail
      go_ret
      exact ⟨rfl, HI.out.old⟩
    | true =>
      have hy := HYN.out.1 rfl
      have hc : r = if kd ≠ kd' then Lib.compareInt kd kd' else Lib.compareBytes x.data.toList y.data.toList := by
        by_cases h : kd = kd'
        · rw [if_neg (fun h' => h' h)]
          exact HC.out.trans (if_neg fun h' => h'.2.2 h)
        · rw [if_pos h]
          exact HC.out.trans (if_pos ⟨hx, hy, h⟩)
      have HC2 := Lib.hid hc
      have HW := Lib.hid (bl_ways x y)
      clear hc HXN HYN HC hx hy
      go_upto_region 8 with fail
      have HIA := HI.out
      have hcs := HIA.cells
      go_region_held3 (fun W => (∀ j, W.cell? ⟨w.heap.size, j, none⟩ = #[.int .i64 kd, .string cd, .string ot, .string nm, .int .i64 yr, .int .i64 am, .int .i64 pc, .int .i64 nu, .int .i64 dy, .int .i64 ls, .int .i64 wh][j]?) ∧ (∀ j, W.cell? ⟨w.heap.size + 1, j, none⟩ = #[.int .i64 kd', .string cd', .string ot', .string nm', .int .i64 yr', .int .i64 am', .int .i64 pc', .int .i64 nu', .int .i64 dy', .int .i64 ls', .int .i64 wh'][j]?))
        (first | exact CmpInv.cells (by assumption) | exact CmpInv.cells (CmpInv.drew (by assumption)))
        (first
          | (go_at_call 13; (with_reducible refine (HTX.out _ (by first | assumption | exact CmpInv.drew (by assumption))).mono ?_); rintro e w' ⟨rfl, hinv⟩)
          | (go_at_call 13; (with_reducible refine (HTY.out _ (by first | assumption | exact CmpInv.drew (by assumption))).mono ?_); rintro e w' ⟨rfl, hinv⟩))
      have e0 : w'.cell? ⟨w.heap.size, 0, none⟩ = some (.int .i64 kd) := hinv.cells.1 0
      have e1 : w'.cell? ⟨w.heap.size + 1, 0, none⟩ = some (.int .i64 kd') := hinv.cells.2 0
      have HI2 := Lib.hid hinv
      clear HIA hcs hinv HI HTX HTY
      by_cases h1 : kd < kd'
      · have hr : r = -1 := by
          rw [HC2.out, if_pos (by omega)]
          unfold compareInt
          rw [if_pos h1]
        subst hr
        clear HC2 HW
        go_wp2_with fail
        go_ret
        exact ⟨rfl, HI2.out.old⟩
      · by_cases h2 : kd' < kd
        · have hr : r = 1 := by
            rw [HC2.out, if_pos (by omega)]
            unfold compareInt
            rw [if_neg h1, if_pos h2]
          subst hr
          have k1 : (kd == kd') = false := by rw [beq_eq_false_iff_ne]; omega
          clear HC2 HW
          go_wp2_with fail
          go_ret
          exact ⟨rfl, HI2.out.old⟩
        · obtain rfl : kd = kd' := by omega
          have hc : r = compareBytes x.data.toList y.data.toList := by rw [HC2.out, if_neg (fun h => h rfl)]
          clear h1 h2 HC2
          rcases HW.out with ⟨q1, q2, q3⟩ | ⟨q1, q2, q3⟩ | ⟨q1, q2, q3⟩
          · obtain rfl : r = -1 := by rw [hc, q1]
            clear hc q1 HW
            go_wp2_with fail
            go_ret
            exact ⟨rfl, HI2.out.old⟩
          · obtain rfl : r = 0 := by rw [hc, q1]
            clear hc q1 HW
            go_wp2_with fail
            go_ret
            exact ⟨rfl, HI2.out.old⟩
          · obtain rfl : r = 1 := by rw [hc, q1]
            clear hc q1 HW
            go_wp2_with fail
            go_ret
            exact ⟨rfl, HI2.out.old⟩

end Go.Proofs.YtdgckdmgplpobaaGreatDoor
