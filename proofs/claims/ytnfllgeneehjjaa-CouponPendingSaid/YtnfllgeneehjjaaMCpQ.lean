/- coupon.Pending of a register with the example's security and one holding. -/
import Derived.Test.YtnfllgeneehjjaaMCpS
import Derived.Test.YtnfllgeneehjjaaMSlI
import Derived.Test.YtnfllgeneehjjaaMRhE
set_option linter.unusedSimpArgs false
set_option linter.unusedVariables false
set_option linter.unusedSimpArgs false
set_option linter.unusedVariables false
namespace Go.Proofs.Ytnfllgeneehjjaa
open Go.RowKit Go.Lib Go.Proofs

theorem cpisDay_yes (d : Int) (h0 : 0 ≤ d) (h1 : d ≤ 35990) (w : World) : Calls Try.prog 75 #[.int .i64 d] w fun e w' => e = .returned (.bool true) ∧ w = w' := by
  go_enter Try.func75, Try.ntmps75
  go_wp2
  go_ret
  exact ⟨rfl, rfl⟩

/-- What is due, as cells. -/
def dueC (d s h k a : Int) : List Value := [.int .i64 d, .int .i64 s, .int .i64 h, .int .i64 k, .int .i64 a]
theorem dueC_one (d s h k a : Int) : ∀ u ∈ dueC d s h k a, u.oneCell' = true := by
  intro u hu
  simp only [dueC, List.mem_cons, List.mem_nil_iff, or_false] at hu
  rcases hu with rfl | rfl | rfl | rfl | rfl <;> rfl
/-- A coupon's row: empty, or the one coupon. -/
def PendV (c : Bool) (base : Nat) (D F : Int) (v : Value) (W : World) : Prop := (c = false → v = .slice none 0 0) ∧ (c = true → W.ownsRow base 76 5 v 1 (dueC D 1 2 1 F))
theorem PendV.below {c : Bool} {base : Nat} {D F : Int} {v : Value} {A B : World} (h : PendV c base D F v A) (hb : Below A.heap.size A B) : PendV c base D F v B := ⟨h.1, fun k => ownsRow_below (h.2 k) hb⟩
def PendP (c : Bool) (D F : Int) (w : World) (e : Ending) (w' : World) : Prop := ∃ v, e = .returned (.tuple #[v, .int .i64 0]) ∧ PendV c w.heap.size D F v w' ∧ Below w.heap.size w w'
theorem Try.infoDue : (Try.prog.info? 76).map (fun i => (i.zero, i.size, i.bytes)) = some (some (.agg #[.int .i64 0, .int .i64 0, .int .i64 0, .int .i64 0, .int .i64 0]), 5, 40) := by kernel_rfl

set_option maxRecDepth 100000 in
set_option maxHeartbeats 16000000 in
theorem cpPending_ex (r : Reg) (D n : Int) (c : Bool) (x y z : Value) (w : World) (h : RegOk r) (hr : RegAt w x y z r) (hs : r.secs = [halfS]) (hq : ∀ q, replayM r.secs [] Mv.zero (tillM D r.ms) = some q → q = [⟨1, 2, n⟩]) (hD0 : 0 ≤ D) (hD1 : D ≤ 700) (hn : 1000 ≤ n ∧ n ≤ 9000) (hc : c = decide (D ∈ daysM halfS 6 4)) :
    Calls Try.prog 47 #[.agg #[x, y, z], .int .i64 D] w (PendP c D (couponI halfS n) w) := by
  unfold PendP
  obtain ⟨i0, hi0, hz0, hz1, hz2⟩ := info_parts Try.infoDue
  obtain ⟨F, hF⟩ : ∃ F, F = couponI halfS n := ⟨_, rfl⟩
  have hFb : 0 < F ∧ F ≤ 1000 := by rw [hF]; unfold couponI shareI halfS; simp only; omega
  have HCO : Hid (∀ W, Calls Try.prog 48 #[.agg halfS.cells.toArray, .int .i64 n] W fun e w' => e = .returned (.tuple #[.int .i64 F, .int .i64 0]) ∧ Below W.heap.size W w') := Lib.hid fun W => by rw [hF]; exact cpCoupon_ok half_ok n (by omega) (by omega) W
  rw [← hF]
  clear hF
  obtain ⟨W1, hW1⟩ : ∃ W1, W1 = w.alloc (.cells #[x, y, z] 29) := ⟨_, rfl⟩
  obtain ⟨bR, hbR⟩ : ∃ b, b = w.heap.size := ⟨_, rfl⟩
  have HB1 : Hid (Below w.heap.size w W1) := Lib.hid (by rw [hW1]; exact below_alloc w _)
  have HA : Hid (W1.heap[bR]? = some (.cells #[x, y, z] 29 (0, 0))) := Lib.hid (by rw [hW1, hbR]; exact heap_alloc_new w _)
  have HCK := Lib.hid (rxCheck_any r x y z W1 h.regS (hr.below HB1.out))
  rw [checkR_ok h] at HCK
  have HAT := Lib.hid (fun W (hW : Below w.heap.size w W) => rxAt_ok r x y z D W h (hr.below hW))
  have HFI : Hid (∀ W, Below w.heap.size w W → Calls Try.prog 41 #[.agg #[x, y, z], .int .i64 1] W fun e w' => e = .returned (.tuple #[.agg halfS.cells.toArray, .bool true]) ∧ Below W.heap.size W w') := Lib.hid fun W hW => by
    have hl := hr.secs.below hW
    rw [hs] at hl
    exact rxFind_any [halfS] 1 x y z W hl (by decide)
  have HDY : Hid (∀ W, Calls Try.prog 77 #[.agg halfS.cells.toArray] W fun e w' => ∃ v, e = .returned v ∧ w'.ownsRow W.heap.size 3 1 v (daysM halfS 6 4).length (cellsI (daysM halfS 6 4)) ∧ Below W.heap.size W w') := Lib.hid fun W => cpDays_ok half_ok W
  have HCT : Hid (∀ W v, (∃ base, W.ownsRow base 3 1 v (daysM halfS 6 4).length (cellsI (daysM halfS 6 4))) → Calls Try.prog 76 #[v, .int .i64 D] W fun e w' => e = .returned (.bool c) ∧ Below W.heap.size W w') := Lib.hid fun W v ⟨base, ho⟩ => by
    rw [hc]; exact slCtI_any base _ D v W ho (by decide)
  have HIS := Lib.hid (fun W => cpisDay_yes D hD0 (by omega) W)
  have HQ := Lib.hid hq
  generalize daysM halfS 6 4 = dl at *
  simp only [halfS, Sec.cells] at HCO HFI HDY
  have hD7 : (D == 720) = false := beq_eq_false_iff_ne.2 (by omega)
  have hFp : 0 < F := hFb.1
  clear hr h hs hc hq hFb
  have hA := HA.out
  have a0 := obj_cell hA 0
  have a1 := obj_cell hA 1
  have a2 := obj_cell hA 2
  simp at a0 a1 a2
  clear hA
  go_enter Try.func47, Try.ntmps47
  go_upto_region 1 with fail
  rw [← hW1, ← hbR]
  have HW0 : Hid (bR = w.heap.size) := Lib.hid hbR
  clear hW1 hbR
  go_wp2_with fail
  refine Calls.mono HCK.out ?_
  rintro e w2 ⟨rfl, hb2⟩
  have HB2 := Lib.hid (HB1.out.trans (hb2.mono HB1.out.size))
  have HA2 := Lib.hid (obj_below HA.out hb2)
  clear a0 a1 a2 hb2 HCK HA HB1
  have hA := HA2.out
  have a0 := obj_cell hA 0
  have a1 := obj_cell hA 1
  have a2 := obj_cell hA 2
  simp at a0 a1 a2
  clear hA
  go_wp2_with fail
  refine (HIS.out _).mono ?_
  rintro e w2' ⟨rfl, rfl⟩
  go_wp2_with fail
  refine Calls.mono (HAT.out _ HB2.out) ?_
  rintro e w3 ⟨u, q, rfl, hq, ho3, hb3⟩
  obtain rfl := HQ.out q hq
  have HB3 := Lib.hid (HB2.out.trans (hb3.mono HB2.out.size))
  have HA3 := Lib.hid (obj_below HA2.out hb3)
  obtain ⟨ao, cap, rfl, hcap, ha⟩ := owns_gen ho3
  obtain ⟨g, rfl⟩ : ∃ g, ao = some ⟨g, 0, none⟩ := by
    rcases ha with ⟨_, h0, _⟩ | ⟨g, h0, _⟩
    · simp at h0
    · exact ⟨g, h0⟩
  have HCC : Hid (∀ W, Below w3.heap.size w3 W → W.cell? ⟨g, 0, none⟩ = some (.int .i64 1) ∧ W.cell? ⟨g, 1, none⟩ = some (.int .i64 2) ∧ W.cell? ⟨g, 2, none⟩ = some (.int .i64 n)) := Lib.hid fun W hW => by
    have h := fun j u hj => (ownsRow_below ho3 hW).cells (g := g) rfl j u hj
    have h0 := h 0 _ rfl
    have h1 := h 1 _ rfl
    have h2 := h 2 _ rfl
    rw [Addr.add_lit] at h0 h1 h2
    exact ⟨h0, h1, h2⟩
  simp only [List.length_cons, List.length_nil, Nat.zero_add]
  clear hq ho3 hb3 HQ HIS HAT a0 a1 a2 HA2 HB2 ha
  go_wp2
  go_loopw [7, 11, 25] (fun lv bv iv wr => ∃ i : Nat, iv = .int .i64 (i : Int) ∧ i ≤ 1 ∧ (i = 0 → lv = .slice none 0 0) ∧ Hid (i = 1 → PendV c w.heap.size D F lv wr) ∧ Hid (Below w3.heap.size w3 wr)) (fun _ _ iv _ => 1 - (RowKit.intOf iv).toNat)
  case atStart => exact ⟨0, rfl, by omega, fun _ => rfl, Lib.hid (fun h => by omega), Lib.hid (Below.refl _ _)⟩
  case round =>
    obtain ⟨i, rfl, hi1, hlv, HPV, HB⟩ := hrel
    by_cases hi : i = 0
    · subst hi
      obtain rfl := hlv rfl
      clear HPV hlv hi1
      obtain ⟨c0, c1, c2⟩ := HCC.out wr HB.out
      obtain ⟨bH, hbH⟩ : ∃ b, b = wr.heap.size := ⟨_, rfl⟩
      obtain ⟨W2, hW2⟩ : ∃ W2, W2 = wr.alloc (.cells #[.int .i64 1, .int .i64 2, .int .i64 n] 51) := ⟨_, rfl⟩
      have HB2 : Hid (Below w3.heap.size w3 W2) := Lib.hid (by rw [hW2]; exact HB.out.alloc HB.out.size _)
      have HH2 : Hid (W2.heap[bH]? = some (.cells #[.int .i64 1, .int .i64 2, .int .i64 n] 51 (0, 0))) := Lib.hid (by rw [hW2, hbH]; exact heap_alloc_new wr _)
      go_upto_region 10 with fail
      rw [← hW2, ← hbH]
      clear hW2 hbH c0 c1 c2 HCC HB
      have hA := obj_below HA3.out HB2.out
      have hH := HH2.out
      have a0 := obj_cell hA 0
      have a1 := obj_cell hA 1
      have a2 := obj_cell hA 2
      have h0 := obj_cell hH 0
      have h1 := obj_cell hH 1
      simp at a0 a1 a2 h0 h1
      clear hA hH
      go_wp2_with fail
      refine Calls.mono (HFI.out _ (HB3.out.trans (HB2.out.mono HB3.out.size))) ?_
      rintro e w4 ⟨rfl, hb4⟩
      have HB4 := Lib.hid (HB2.out.trans (hb4.mono HB2.out.size))
      have HH4 := Lib.hid (obj_below HH2.out hb4)
      clear hb4 a0 a1 a2 h0 h1 HH2 HB2
      obtain ⟨bS, hbS⟩ : ∃ b, b = w4.heap.size := ⟨_, rfl⟩
      obtain ⟨w5, hw5⟩ : ∃ W, W = w4.alloc (.cells #[.int .i64 1, .int .i64 1, .int .i64 0, .int .i64 720, .int .i64 5000, .int .i64 6, .bool false] 34) := ⟨_, rfl⟩
      have HB5 : Hid (Below w3.heap.size w3 w5) := Lib.hid (by rw [hw5]; exact HB4.out.alloc HB4.out.size _)
      have HH5 : Hid (w5.heap[bH]? = some (.cells #[.int .i64 1, .int .i64 2, .int .i64 n] 51 (0, 0))) := Lib.hid (by rw [hw5]; exact obj_below HH4.out (below_alloc _ _))
      have HS5 : Hid (w5.heap[bS]? = some (.cells #[.int .i64 1, .int .i64 1, .int .i64 0, .int .i64 720, .int .i64 5000, .int .i64 6, .bool false] 34 (0, 0))) := Lib.hid (by rw [hw5, hbS]; exact heap_alloc_new _ _)
      go_upto_region 11 with fail
      rw [← hw5, ← hbS]
      clear hw5 hbS HB4 HH4
      have hH := HH5.out
      have h0 := obj_cell hH 0
      have h1 := obj_cell hH 1
      simp at h0 h1
      clear hH
      obtain ⟨bD, hbD⟩ : ∃ b, b = w5.heap.size := ⟨_, rfl⟩
      obtain ⟨w6, hw6⟩ : ∃ W, W = w5.alloc (.cells #[.int .i64 D, .int .i64 1, .int .i64 2, .int .i64 1, .int .i64 0] 76) := ⟨_, rfl⟩
      have HB6 : Hid (Below w3.heap.size w3 w6) := Lib.hid (by rw [hw6]; exact HB5.out.alloc HB5.out.size _)
      have HH6 : Hid (w6.heap[bH]? = some (.cells #[.int .i64 1, .int .i64 2, .int .i64 n] 51 (0, 0))) := Lib.hid (by rw [hw6]; exact obj_below HH5.out (below_alloc _ _))
      have HS6 : Hid (w6.heap[bS]? = some (.cells #[.int .i64 1, .int .i64 1, .int .i64 0, .int .i64 720, .int .i64 5000, .int .i64 6, .bool false] 34 (0, 0))) := Lib.hid (by rw [hw6]; exact obj_below HS5.out (below_alloc _ _))
      have HD6 : Hid (w6.heap[bD]? = some (.cells #[.int .i64 D, .int .i64 1, .int .i64 2, .int .i64 1, .int .i64 0] 76 (0, 0))) := Lib.hid (by rw [hw6, hbD]; exact heap_alloc_new _ _)
      have HSD : Hid (bS ≠ bD) := Lib.hid (by have := obj_lt HS5.out; omega)
      have HDB : Hid (w3.heap.size ≤ bD) := Lib.hid (by have := HB5.out.size; omega)
      go_upto_region 12 with fail
      rw [← hw6, ← hbD]
      clear hw6 hbD HB5 HH5 HS5 h0 h1
      have hH := HH6.out
      have hS := HS6.out
      have h2 := obj_cell hH 2
      have s0 := obj_cell hS 0
      have s1 := obj_cell hS 1
      have s2 := obj_cell hS 2
      have s3 := obj_cell hS 3
      have s4 := obj_cell hS 4
      have s5 := obj_cell hS 5
      have s6 := obj_cell hS 6
      simp at h2 s0 s1 s2 s3 s4 s5 s6
      clear hH hS
      go_wp2_with fail
      refine Calls.mono (HCO.out _) ?_
      rintro e w7 ⟨rfl, hb7⟩
      have HB7 := Lib.hid (HB6.out.trans (hb7.mono HB6.out.size))
      have HS7 := Lib.hid (obj_below HS6.out hb7)
      have HD7 := Lib.hid (obj_below HD6.out hb7)
      clear hb7 h2 s0 s1 s2 s3 s4 s5 s6 HB6 HS6 HD6 HH6 HCO
      have hD := HD7.out
      have e4 := obj_cell hD 4
      have ef4 := obj_free hD 4
      simp at e4
      clear hD
      obtain ⟨w8, hw8⟩ : ∃ W, W = w7.setCell ⟨bD, 4, none⟩ (.int .i64 F) := ⟨_, rfl⟩
      have HB8 : Hid (Below w3.heap.size w3 w8) := Lib.hid (by rw [hw8]; exact HB7.out.setCell HDB.out _)
      have HS8 : Hid (w8.heap[bS]? = some (.cells #[.int .i64 1, .int .i64 1, .int .i64 0, .int .i64 720, .int .i64 5000, .int .i64 6, .bool false] 34 (0, 0))) := Lib.hid (by rw [hw8]; exact (Below.heap_setCell w7 _ _ _ HSD.out).trans HS7.out)
      have HD8 : Hid (w8.heap[bD]? = some (.cells #[.int .i64 D, .int .i64 1, .int .i64 2, .int .i64 1, .int .i64 F] 76 (0, 0))) := Lib.hid (by rw [hw8]; simpa using obj_set HD7.out 4 (.int .i64 F))
      go_upto_region 13 with fail
      rw [← hw8]
      clear hw8 e4 ef4 HB7 HS7 HD7
      have hS := HS8.out
      have s0 := obj_cell hS 0
      have s1 := obj_cell hS 1
      have s2 := obj_cell hS 2
      have s3 := obj_cell hS 3
      have s4 := obj_cell hS 4
      have s5 := obj_cell hS 5
      have s6 := obj_cell hS 6
      simp at s0 s1 s2 s3 s4 s5 s6
      clear hS
      go_wp2_with fail
      refine Calls.mono (HDY.out _) ?_
      rintro e w9 ⟨v9, rfl, ho9, hb9⟩
      have HB9 := Lib.hid (HB8.out.trans (hb9.mono HB8.out.size))
      have HS9 := Lib.hid (obj_below HS8.out hb9)
      have HD9 := Lib.hid (obj_below HD8.out hb9)
      have HC9 := Lib.hid (HCT.out w9 v9 ⟨_, ho9⟩)
      clear ho9 hb9 s0 s1 s2 s3 s4 s5 s6 HB8 HS8 HD8 HDY HCT
      go_wp2_with fail
      refine Calls.mono HC9.out ?_
      rintro e w10 ⟨rfl, hb10⟩
      have HB10 := Lib.hid (HB9.out.trans (hb10.mono HB9.out.size))
      have HS10 := Lib.hid (obj_below HS9.out hb10)
      have HD10 := Lib.hid (obj_below HD9.out hb10)
      have hWL := Nat.le_trans HB3.out.size HB10.out.size
      clear hb10 HB9 HS9 HD9 HC9
      have hS := HS10.out
      have hD := HD10.out
      have s3 := obj_cell hS 3
      have e0 := obj_cell hD 0
      have e1 := obj_cell hD 1
      have e2 := obj_cell hD 2
      have e3 := obj_cell hD 3
      have e4 := obj_cell hD 4
      simp at s3 e0 e1 e2 e3 e4
      clear hS hD
      cases c with
      | false =>
        have HPF : Hid (PendV false w.heap.size D F (.slice none 0 0) w10) := Lib.hid ⟨fun _ => rfl, fun h => by cases h⟩
        go_wp2
        go_roundw
        case rel => first | exact ⟨1, by first | rfl | go_num, by omega, (fun h => by omega), Lib.hid (fun _ => HPF.out), HB10⟩ | ((repeat apply Exists.intro); exact ⟨⟨1, by first | rfl | go_num, by omega, (fun h => by omega), Lib.hid (fun _ => HPF.out), HB10⟩, rfl⟩)
        case measure => simp [RowKit.intOf]
      | true =>
        go_wp2_with (at_builtin; refine wpList_append_own _ rfl _ _ 70 rfl w.heap.size 76 i0 (.agg #[.int .i64 0, .int .i64 0, .int .i64 0, .int .i64 0, .int .i64 0]) 5 40 Try.underlying70 hi0 hz0 hz1 hz2 rfl (by decide) (.slice none 0 0) 0 [] rfl (World.ownsRow_nil _ _ _ _) ⟨w10.heap.size, 0, none⟩ 1 1 (dueC D 1 2 1 F) rfl rfl (new_cells _ _ _ _ rfl) (dueC_one _ _ _ _ _) (by unfold maxLen; omega) (by omega) (by simp; omega) ?_; intro v' w11 hown11 hgr11 _; (have hs11 := obj_below HS10.out (((Below.refl w10.heap.size w10).alloc (Nat.le_refl _) _).grown hgr11 (by simp) (by intro k hk; exact absurd hk (by simp [Value.ownBlock])))); (have t3 := obj_cell hs11 3); (simp at t3); (have HB11 := Lib.hid ((HB10.out.alloc HB10.out.size _).grown hgr11 (by have := HB10.out.size; simp; omega) (by intro k hk; exact absurd hk (by simp [Value.ownBlock])))); (have HO11 := Lib.hid hown11); clear hs11 hown11 hgr11 s3 e0 e1 e2 e3 e4)
        have HPF : Hid (PendV true w.heap.size D F v' w11) := Lib.hid ⟨fun h => (by cases h), fun _ => (by simpa using HO11.out)⟩
        go_roundw
        case rel => first | exact ⟨1, by first | rfl | go_num, by omega, (fun h => by omega), Lib.hid (fun _ => HPF.out), HB11⟩ | ((repeat apply Exists.intro); exact ⟨⟨1, by first | rfl | go_num, by omega, (fun h => by omega), Lib.hid (fun _ => HPF.out), HB11⟩, rfl⟩)
        case measure => simp [RowKit.intOf]
    · obtain rfl : i = 1 := by omega
      have HP1 := Lib.hid (HPV.out rfl)
      have HE := Lib.hid (HB3.out.trans (HB.out.mono HB3.out.size))
      clear HPV HB HCC hlv
      go_wp2
      go_ret2
      exact ⟨_, rfl, HP1.out, HE.out⟩

end Go.Proofs.Ytnfllgeneehjjaa
