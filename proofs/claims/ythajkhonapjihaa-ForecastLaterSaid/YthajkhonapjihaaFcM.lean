/- forecast.Lowest, and the statements' example. -/
import Derived.Test.YthajkhonapjihaaFcS
import Derived.Test.YthajkhonapjihaaCmpI
import Derived.Deep.RegionHeld3
import Derived.Deep.DeepCutAuto
set_option linter.unusedSimpArgs false
set_option linter.unusedVariables false
namespace Go.Proofs.Ythajkhonapjihaa
open Go.RowKit Go.Lib Go.Proofs

set_option maxHeartbeats 1000000 in
theorem fcLowestC_any (x y : Pos) (w : World) : Calls Try.prog 31 #[.agg (posC x).toArray, .agg (posC y).toArray] w fun e w' => e = .returned (.int .i64 (cmpI x.amt y.amt)) ∧ Below w.heap.size w w' := by
  obtain ⟨a, b⟩ := x
  obtain ⟨c, d⟩ := y
  simp only [posC]
  have HC := Lib.hid (fun W => cmpInt_any b d W)
  go_enter Try.func31, Try.ntmps31
  go_wp2_with (go_at_call 32; refine (HC.out _).mono ?_; rintro e w' ⟨rfl, rfl⟩)
  go_ret
  exact ⟨rfl, below2 w _ _⟩

/-- The first one with the least amount. -/
def minP : Pos → List Pos → Pos
  | m, [] => m
  | m, x :: l => if x.amt < m.amt then minP x l else minP m l
theorem minP_snoc (x : Pos) : ∀ (l : List Pos) (m : Pos), minP m (l ++ [x]) = if x.amt < (minP m l).amt then x else minP m l
  | [], m => rfl
  | y :: l, m => by
    simp only [List.cons_append, minP]
    split
    · exact minP_snoc x l y
    · exact minP_snoc x l m

/-- MinFunc on the way: the least one so far lies in block b. -/
structure MnI (w : World) (b : Nat) (m : Pos) (W : World) : Prop where
  box : W.heap[b]? = some (.cells (posC m).toArray 33 (0, 0))
  res : W.heap[w.heap.size]? = some (.cells #[.int .i64 0, .int .i64 0] 33 (0, 0))
  old : Below w.heap.size w W
theorem MnI.below {w : World} {b : Nat} {m : Pos} {A B : World} (h : MnI w b m A) (hb : Below A.heap.size A B) : MnI w b m B := ⟨obj_below h.box hb, obj_below h.res hb, h.old.trans (hb.mono h.old.size)⟩
theorem MnI.cells {w : World} {b : Nat} {d a : Int} {A : World} (h : MnI w b ⟨d, a⟩ A) : A.cell? ⟨b, 0, none⟩ = some (.int .i64 d) ∧ A.cell? ⟨b, 1, none⟩ = some (.int .i64 a) := ⟨by simpa [posC] using obj_cell h.box 0, by simpa [posC] using obj_cell h.box 1⟩
theorem MnI.set {w : World} {b : Nat} {m : Pos} {A : World} (h : MnI w b m A) (hb : w.heap.size < b) (x : Pos) : MnI w b x (put2 A b (.int .i64 x.day) (.int .i64 x.amt)) := by
  refine ⟨put2_at h.box rfl _ _, ?_, put2_below h.old (by omega) _ _⟩
  unfold put2
  exact (Below.heap_setCell _ _ _ w.heap.size (by show w.heap.size ≠ b; omega)).trans ((Below.heap_setCell _ _ _ w.heap.size (by show w.heap.size ≠ b; omega)).trans h.res)

set_option maxHeartbeats 8000000 in
theorem minPos_any (l : List Pos) (p : Pos) (hlen : l.length ≤ 1000) (v : Value) (w : World) (hv : ListAt posC 2 w v (p :: l)) :
    Calls Try.prog 30 #[v, .func (.func 31) #[] #[]] w fun e w' => e = .returned (.agg (posC (minP p l)).toArray) ∧ Below w.heap.size w w' := by
  have eg := enters_of Try.func31 (by kernel_rfl) rfl
  have HLC := Lib.hid fcLowestC_any
  obtain ⟨ao, cap, rfl, hcap, hc⟩ := hv.shape posF
  obtain ⟨b, o, rfl, hb, hcc⟩ := hc (by simp)
  obtain ⟨n, hn⟩ : ∃ n, n = (p :: l).length := ⟨_, rfl⟩
  have HN := Lib.hid hn
  have HC := Lib.hid hcc
  have hp0 := hcc 0 (by simp) 0 (by omega)
  have hp1 := hcc 0 (by simp) 1 (by omega)
  simp [posC] at hp0 hp1
  have hn1 : 1 ≤ n := by rw [hn]; simp
  have hn2 : n ≤ 1001 := by rw [hn]; simp; omega
  rw [← hn] at hcap ⊢
  obtain ⟨res, hres⟩ : ∃ res, res = minP p l := ⟨_, rfl⟩
  have HRES := Lib.hid hres
  rw [← hres]
  clear hn hv hc hcc hres
  have HX := Lib.hid (show MnI w (w.heap.size + 1) p ((w.alloc (.cells #[.int .i64 0, .int .i64 0] 33)).alloc (.cells (posC p).toArray 33)) from ⟨alloc2_at w _ _, alloc1_at w _ _, below2 w _ _⟩)
  obtain ⟨pd, pa⟩ := p
  simp only [posC] at HX hp0 hp1
  go_enter Try.func30, Try.ntmps30
  go_wp2
  go_loopw [6] (fun iv wr => ∃ (k : Nat) (m : Pos), iv = .int .i64 (k : Int) ∧ 1 ≤ k ∧ k ≤ n ∧ Hid (m = minP ⟨pd, pa⟩ (l.take (k - 1))) ∧ Hid (MnI w (w.heap.size + 1) m wr)) (fun iv _ => n - (RowKit.intOf iv).toNat)
  case atStart => exact ⟨1, ⟨pd, pa⟩, rfl, by omega, by omega, Lib.hid (by simp [minP]), HX⟩
  case round =>
    clear HX
    obtain ⟨k, m, rfl, hk1, hkn, HM, HI⟩ := hrel
    by_cases hlt : k < n
    · have hlx : k < ((⟨pd, pa⟩ : Pos) :: l).length := by rw [← HN.out]; exact hlt
      have hcell := fun j (hj : j < 2) => (HI.out.old.cell (p := ⟨b, o + k * 2 + j, none⟩) hb).trans (HC.out k hlx j hj)
      have hll : k - 1 < l.length := by simp at hlx; omega
      have hxe : ((⟨pd, pa⟩ : Pos) :: l)[k] = l[k - 1] := by
        obtain ⟨j, rfl⟩ : ∃ j, k = j + 1 := ⟨k - 1, by omega⟩
        rfl
      rw [hxe] at hcell
      have htk : minP ⟨pd, pa⟩ (l.take k) = (if l[k - 1].amt < m.amt then l[k - 1] else m) := by
        rw [show l.take k = l.take (k - 1) ++ [l[k - 1]] by rw [← List.take_succ_eq_append_getElem hll, show k - 1 + 1 = k by omega], minP_snoc, ← HM.out]
      generalize l[k - 1] = x at *
      obtain ⟨xd, xa⟩ := x
      obtain ⟨md, ma⟩ := m
      have c0 := hcell 0 (by omega)
      have c1 := hcell 1 (by omega)
      simp [posC] at c0 c1
      have hbx := HI.out.box
      have u0 := obj_cell hbx 0
      have u1 := obj_cell hbx 1
      simp [posC] at u0 u1
      have HCE : Hid (∀ W, Below w.heap.size w W → W.cell? ⟨b, o + k * 2, none⟩ = some (.int .i64 xd) ∧ W.cell? ⟨b, o + k * 2 + 1, none⟩ = some (.int .i64 xa)) := Lib.hid fun W hW => ⟨((hW.cell (p := ⟨b, o + k * 2, none⟩) hb).trans (HI.out.old.cell (p := ⟨b, o + k * 2, none⟩) hb).symm).trans c0, ((hW.cell (p := ⟨b, o + k * 2 + 1, none⟩) hb).trans (HI.out.old.cell (p := ⟨b, o + k * 2 + 1, none⟩) hb).symm).trans c1⟩
      have HTK := Lib.hid htk
      have hk0 : (0 : Int) ≤ (k : Int) := by omega
      have hki : (k : Int) < (n : Int) := by omega
      have HCL := Lib.hid (fun W => HLC.out ⟨xd, xa⟩ ⟨md, ma⟩ W)
      simp only [posC] at HCL
      clear hcell hbx htk hxe
      go_upto_region 7 with fail
      have hcs : wr.cell? ⟨b, o + k * 2, none⟩ = some (.int .i64 xd) ∧ wr.cell? ⟨b, o + k * 2 + 1, none⟩ = some (.int .i64 xa) ∧ wr.cell? ⟨w.heap.size + 1, 0, none⟩ = some (.int .i64 md) ∧ wr.cell? ⟨w.heap.size + 1, 1, none⟩ = some (.int .i64 ma) := ⟨c0, c1, u0, u1⟩
      go_region_held3 (fun W => W.cell? ⟨b, o + k * 2, none⟩ = some (.int .i64 xd) ∧ W.cell? ⟨b, o + k * 2 + 1, none⟩ = some (.int .i64 xa) ∧ W.cell? ⟨w.heap.size + 1, 0, none⟩ = some (.int .i64 md) ∧ W.cell? ⟨w.heap.size + 1, 1, none⟩ = some (.int .i64 ma)) (first | exact hcs | exact hct) (first | (go_at_call 31; with_reducible refine Calls.mono (HCL.out _) ?_; rintro e x7 ⟨rfl, b7⟩; (have HJ : Hid (MnI w (w.heap.size + 1) ⟨md, ma⟩ x7) := Lib.hid (by first | exact HI.out.below b7 | exact HI.out.below (Below.trans ((Below.refl _ _).drew) (b7.mono (Nat.le_refl _))))); (have hct : x7.cell? ⟨b, o + k * 2, none⟩ = some (.int .i64 xd) ∧ x7.cell? ⟨b, o + k * 2 + 1, none⟩ = some (.int .i64 xa) ∧ x7.cell? ⟨w.heap.size + 1, 0, none⟩ = some (.int .i64 md) ∧ x7.cell? ⟨w.heap.size + 1, 1, none⟩ = some (.int .i64 ma) := ⟨(HCE.out _ HJ.out.old).1, (HCE.out _ HJ.out.old).2, HJ.out.cells.1, HJ.out.cells.2⟩); clear b7))
      obtain ⟨d0, d1, t0, t1⟩ := hct
      have g0 := obj_free HJ.out.box 0
      have g1 := obj_free HJ.out.box 1
      clear hcs c0 c1 u0 u1
      by_cases hxa : xa < ma
      · have hcm : cmpI xa ma = -1 := if_pos hxa
        rw [if_pos hxa] at HTK
        rw [hcm]
        have HJ2 := Lib.hid (HJ.out.set (by omega) ⟨xd, xa⟩)
        unfold put2 at HJ2
        clear hcm hxa
        go_wp2
        go_roundw
        case rel => exact ⟨k + 1, ⟨xd, xa⟩, by first | rfl | go_num, by omega, by omega, Lib.hid (by rw [show k + 1 - 1 = k by omega, HTK.out]), HJ2⟩
        case measure => simp [RowKit.intOf]; omega
      · have hcm : ¬ cmpI xa ma < 0 := by unfold cmpI; rw [if_neg hxa]; split <;> omega
        rw [if_neg hxa] at HTK
        generalize cmpI xa ma = q at *
        clear hxa
        go_wp2
        go_roundw
        case rel => exact ⟨k + 1, ⟨md, ma⟩, by first | rfl | go_num, by omega, by omega, Lib.hid (by rw [show k + 1 - 1 = k by omega, HTK.out]), HJ⟩
        case measure => simp [RowKit.intOf]; omega
    · obtain rfl : k = n := by omega
      have hall : l.take (k - 1) = l := List.take_of_length_le (by rw [HN.out]; simp)
      have hm := HM.out
      rw [hall, ← HRES.out] at hm
      subst hm
      obtain ⟨md, ma⟩ := m
      have hbx := HI.out.box
      have hrs := HI.out.res
      have u0 := obj_cell hbx 0
      have u1 := obj_cell hbx 1
      have t0 := obj_cell hrs 0
      have t1 := obj_cell hrs 1
      have g0 := obj_free hrs 0
      have g1 := obj_free hrs 1
      simp [posC] at u0 u1 t0 t1
      clear hbx hrs HC HM HRES hall
      go_wp2
      show bodyPost Try.prog Try.f30 _ Exit.ret _ (put2 wr w.heap.size (.int .i64 md) (.int .i64 ma))
      refine Proofs.Ythajkhonapjihaa.ret2 HI.out.res rfl _ _ (fun F hF => ?_) rfl ⟨rfl, put2_below HI.out.old (Nat.le_refl _) _ _⟩
      have q0 := obj_cell hF 0
      have q1 := obj_cell hF 1
      simp [results, Try.results30, go_sem, q0, q1]
      rfl

end Go.Proofs.Ythajkhonapjihaa
