/- The walk of ForecastLater: putting off what goes out never makes a position less; for every tape and number. -/
import Derived.Test.YthajkhonapjihaaFcH
set_option linter.unusedSimpArgs false
set_option linter.unusedVariables false
namespace Go.Proofs.Ythajkhonapjihaa
open Go.RowKit Go.Lib Go.Proofs

theorem neg_later (a b : Int) (b0 : 0 ≤ b) (n : Nat) : ∀ {l : List Flw}, (∀ f ∈ l, f.amt < 0 ∧ 0 ≤ f.day) → balK 0 0 l n ≤ balK 0 0 (l.map (shiftF a b)) n
  | [], _ => Int.le_refl _
  | f :: l, h => by
    have ih := neg_later a b b0 n (l := l) fun g hg => h g (List.mem_cons_of_mem _ hg)
    obtain ⟨h1, h2⟩ := h f (by simp)
    have hd : f.day ≤ (shiftF a b f).day := by
      unfold shiftF
      by_cases hc : a ≤ f.day
      · simp only [if_pos hc]; omega
      · simp only [if_neg hc]; omega
    have ha : (shiftF a b f).amt = f.amt := rfl
    rw [List.map_cons, balK_cons 0 f l h2, balK_cons 0 (shiftF a b f) _ (by omega), ha]
    by_cases c1 : f.day < (n : Int)
    · by_cases c2 : (shiftF a b f).day < (n : Int)
      · rw [if_pos c1, if_pos c2]; omega
      · rw [if_pos c1, if_neg c2]; omega
    · rw [if_neg c1, if_neg (by omega)]; omega

theorem proj_cellsN {base g cap n : Nat} {e : TypeId} {w : World} {o : Int} {l : List Flw} (h : w.ownsRow base e 2 (.slice (some ⟨g, 0, none⟩) n cap) n (cellsL posC (projL o 0 l n))) (k : Nat) (hk : k < n) : w.cell? ⟨g, k * 2 + 1, none⟩ = some (.int .i64 (balK o 0 l (k + 1))) := by
  have hl : k < (projL o 0 l n).length := by rw [projL_len]; exact hk
  have h1 := cellsL_get posF (projL o 0 l n) k 1 hl (by decide)
  rw [projL_get] at h1
  rw [h.cellAt (k * 2 + 1) (by omega), h1]; simp [posC]

set_option maxRecDepth 100000 in
set_option maxHeartbeats 8000000 in
theorem fclater_any (v : Value) (n : Nat) (x : Int) (w : World) (hi : IntsAt w v n w.heap.size) (hn : n ≤ 9223372036854775807) (x0 : 0 ≤ x) (x1 : x ≤ 255) :
    Calls Try.prog 4 #[v, .int .u8 x] w fun e w' => e = .returned (.bool true) ∧ Below w.heap.size w w' := by
  obtain ⟨i0, hi0, hz0, hz1, hz2⟩ := info_parts Try.infoFlow
  have HNEW := Lib.hid (sNew_any v n w hi hn)
  have HSN := Lib.hid sane29_any
  obtain ⟨y, hy⟩ : ∃ y, y = x % 20 := ⟨_, rfl⟩
  have y0 : 0 ≤ y := by omega
  have y1 : y ≤ 19 := by omega
  have HY := Lib.hid hy
  clear hi hn hy
  go_enter Try.func4, Try.ntmps4
  go_wp2_with fail
  refine (HNEW.out).mono ?_
  rintro e w1 ⟨rfl, t1, b1⟩
  have HF := Lib.hid (sFlows_any w.heap.size 8 w1 t1 (by decide))
  have HW1 := Lib.hid b1
  clear t1 b1 HNEW
  go_wp2_with fail
  with_reducible refine Calls.mono (HF.out) ?_
  rintro e w2 ⟨va, A, rfl, hlA, hokA, hoA, hs2⟩
  have HS2 := Lib.hid hs2
  have HKA := Lib.hid hokA
  have HW2 := Lib.hid (HW1.out.grown hs2.old HW1.out.size (by simp))
  have hla := ListAt.owns hoA
  obtain ⟨ao, ca, rfl, hcap, hc⟩ := hla.shape flowF
  have HC := Lib.hid hc
  obtain ⟨m, hm⟩ : ∃ m, m = A.length := ⟨_, rfl⟩
  have HM := Lib.hid hm
  rw [← hm] at hlA ⊢
  have hm8 : m ≤ 8 := by omega
  clear hoA hs2 hokA HF hla hc hm hcap
  go_wp2
  go_loopw [6, 21] (fun nv iv wr => ∃ (j q : Nat) (L : List Flw), iv = .int .i64 (j : Int) ∧ j ≤ m ∧ q ≤ j ∧ Hid (L.length = q) ∧ Hid (FlwsOk 29 L) ∧ Hid (∀ f ∈ L, f.amt < 0) ∧ Hid (wr.ownsRow w2.heap.size 38 4 nv q (cellsL flowC L)) ∧ Hid (Below w2.heap.size w2 wr)) (fun _ iv _ => m - (RowKit.intOf iv).toNat)
  case atStart => exact ⟨0, 0, [], rfl, by omega, by omega, Lib.hid rfl, Lib.hid (fun f hf => by cases hf), Lib.hid (fun f hf => by cases hf), Lib.hid (World.ownsRow_nil _ _ _ _), Lib.hid (Below.refl _ _)⟩
  case round =>
    obtain ⟨j, q, L, rfl, hj, hq, HL, HOK, HNEG, HO, HB⟩ := hrel
    by_cases hlt : j < m
    · have hlx : j < A.length := by rw [← HM.out]; exact hlt
      obtain ⟨bk, of, rfl, hbk, hcc⟩ := HC.out (by omega)
      have hcell := fun q (hq : q < 4) => (HB.out.cell (p := ⟨bk, of + j * 4 + q, none⟩) hbk).trans (hcc j hlx q hq)
      have hfo := HKA.out A[j] (List.getElem_mem hlx)
      have hsn := cellsL_snoc flowC L A[j]
      generalize A[j] = f at *
      have HFO := Lib.hid hfo
      have HSNO := Lib.hid hsn
      obtain ⟨fd, fa, fk, fr⟩ := f
      have c0 := hcell 0 (by omega)
      have c1 := hcell 1 (by omega)
      have c2 := hcell 2 (by omega)
      have c3 := hcell 3 (by omega)
      simp [flowC] at c0 c1 c2 c3
      have hj0 : (0 : Int) ≤ (j : Int) := by omega
      have hj1 : (j : Int) < (m : Int) := by omega
      clear hcell hcc HC hfo hsn
      by_cases hfa : fa < 0
      · go_wp2_with (at_builtin; refine wpList_append_own _ rfl _ _ 25 rfl w2.heap.size 38 i0 (.agg #[.int .i64 0, .int .i64 0, .int .i64 0, .int .i64 0]) 4 32 Try.underlying25 hi0 hz0 hz1 hz2 rfl (by decide) _ _ _ rfl ((HO.out.alloc _).alloc _) ⟨wr.heap.size + 1, 0, none⟩ 1 1 (flowC ⟨fd, fa, fk, fr⟩) rfl rfl (new_cells _ _ _ _ (by simp)) (flowF.one _) (by unfold maxLen; omega) (by omega) (by simp; exact Nat.le_trans HB.out.size (by omega)) ?_; intro v' w4 hown4 hgr4 _)
        go_roundw
        case rel =>
          refine ⟨j + 1, q + 1, L ++ [⟨fd, fa, fk, fr⟩], by first | rfl | go_num, by omega, by omega, Lib.hid (by rw [List.length_append, HL.out]; rfl), Lib.hid (fun f hf => ?_), Lib.hid (fun f hf => ?_), Lib.hid ?_, Lib.hid ?_⟩
          · rcases List.mem_append.1 hf with h | h
            · exact HOK.out f h
            · rw [List.mem_singleton] at h; rw [h]; exact HFO.out
          · rcases List.mem_append.1 hf with h | h
            · exact HNEG.out f h
            · rw [List.mem_singleton] at h; rw [h]; exact hfa
          · rw [HSNO.out] at hown4; exact hown4
          · have hB2 := HB.out.alloc HB.out.size (.cells #[.int .i64 fd, .int .i64 fa, .int .i64 fk, .int .i64 fr] 38)
            have hB3 := hB2.alloc hB2.size (.cells #[.int .i64 fd, .int .i64 fa, .int .i64 fk, .int .i64 fr] 38)
            exact hB3.trans ⟨hgr4.os, hgr4.tape, hgr4.output, hgr4.size, fun k hk => hgr4.block k (Nat.lt_of_lt_of_le hk hB3.size) (fun e => absurd (ownBlock_le HO.out k e.symm) (by omega))⟩
        case measure => simp [RowKit.intOf]; omega
      · go_wp2
        go_roundw
        case rel => exact ⟨j + 1, q, L, by first | rfl | go_num, by omega, by omega, HL, HOK, HNEG, Lib.hid (HO.out.alloc _), Lib.hid (HB.out.alloc HB.out.size _)⟩
        case measure => simp [RowKit.intOf]; omega
    · obtain rfl : j = m := by omega
      have HNI := Lib.hid (n_in (HS2.out.below HB.out) 10 (by omega) (by omega))
      have hq8 : q ≤ 8 := by omega
      clear HC HM hlA
      go_wp2_with fail
      with_reducible refine Calls.mono (HNI.out) ?_
      rintro e w3 ⟨r, rfl, r0, r1, hi3, hg3⟩
      have ho3 := HO.out.kept hg3 (ownBlock_ne HO.out w.heap.size (Nat.lt_of_lt_of_le HS2.out.lt HS2.out.old.size))
      have HW3 := Lib.hid (HW1.out.grown hi3.old HW1.out.size (by simp))
      have HL3 := Lib.hid (ListAt.owns (by rw [HL.out]; exact ho3))
      obtain ⟨oo, co, rfl, _⟩ := owns_gen ho3
      have HSH := Lib.hid (fcShift_ok HOK.out (by rw [HL.out]; omega) _ w3 HL3.out r y r0 (by omega) y0 y1)
      rw [HL.out] at HSH
      have PA := Lib.hid (fun W (hW : Below w3.heap.size w3 W) => fcProject_ok (D := 29) (by decide) HOK.out (by rw [HL.out]; omega) _ W (HL3.out.below hW) 0 0 60 61 (by decide) (by decide) (by decide) (by decide) (by decide) (by decide) (by decide) (by decide))
      unfold ProjPost at PA
      have HLE := Lib.hid (fun j => neg_later r y y0 j (l := L) fun f hf => ⟨HNEG.out f hf, (HOK.out f hf).d0⟩)
      have HSO := Lib.hid (shift_ok (a := r) y0 y1 HOK.out)
      have HSL := Lib.hid (show (L.map (shiftF r y)).length = q from by rw [List.length_map]; exact HL.out)
      clear ho3 hi3 hg3 HNI HO HB HL3 HS2 HKA
      go_wp2_with fail
      rw [← HY.out]
      with_reducible refine Calls.mono (HSH.out) ?_
      rintro e w4 ⟨vx, rfl, X, hpX, hoX, b4⟩
      have hxl : X.length = q := by rw [hpX.length_eq]; exact HSL.out
      have HLX := Lib.hid (ListAt.owns (by rw [hxl]; exact hoX))
      obtain ⟨xo, cx, rfl, _⟩ := owns_gen hoX
      have HLE2 := Lib.hid (fun j => show balK 0 0 L j ≤ balK 0 0 X j from by rw [balK_perm 0 0 hpX]; exact HLE.out j)
      have PX := Lib.hid (fun W (hW : Below w4.heap.size w4 W) => fcProject_ok (D := 48) (by decide) (ok_perm hpX HSO.out) (by rw [hxl]; omega) _ W (HLX.out.below hW) 0 0 60 61 (by decide) (by decide) (by decide) (by decide) (by decide) (by decide) (by decide) (by decide))
      unfold ProjPost at PX
      have HB4 := Lib.hid b4
      clear hpX hxl hoX b4 HLE HSO HSL HSH HLX
      go_wp2_with fail
      with_reducible refine Calls.mono (PA.out _ HB4.out) ?_
      rintro e w5 ⟨vp, rfl, ho5, b5⟩
      have HO5 := Lib.hid ho5
      have HB5 := Lib.hid b5
      clear ho5 b5 PA
      go_wp2_with fail
      with_reducible refine Calls.mono (PX.out _ HB5.out) ?_
      rintro e w6 ⟨vq, rfl, ho6, b6⟩
      have ho5 := ownsRow_below HO5.out b6
      obtain ⟨ga, ka, rfl, _, _⟩ := owns_shape ho5 (by decide)
      obtain ⟨gx, kx, rfl, _, _⟩ := owns_shape ho6 (by decide)
      have CA := Lib.hid (fun W (hW : Below w6.heap.size w6 W) j (hj : j < 61) => proj_cellsN (ownsRow_below ho5 hW) j hj)
      have CX := Lib.hid (fun W (hW : Below w6.heap.size w6 W) j (hj : j < 61) => proj_cellsN (ownsRow_below ho6 hW) j hj)
      have hb46 := HB5.out.trans (b6.mono HB5.out.size)
      have hb36 := HB4.out.trans (hb46.mono HB4.out.size)
      have HWW := Lib.hid (HW3.out.trans (hb36.mono HW3.out.size))
      clear ho5 ho6 b6 hb46 hb36 PX HO5 HB5 HB4 HW3 HW2 HW1
      go_wp2
      go_loopw [72] (fun iv wx => ∃ (i : Nat), iv = .int .i64 (i : Int) ∧ i ≤ 61 ∧ Hid (Below w6.heap.size w6 wx)) (fun iv _ => 61 - (RowKit.intOf iv).toNat)
      case atStart => exact ⟨0, rfl, by omega, Lib.hid (Below.refl _ _)⟩
      case round =>
        obtain ⟨i, rfl, hi61, HB⟩ := hrel
        by_cases hlt : i < 61
        · have z1 := CX.out _ HB.out i hlt
          have a1 := CA.out _ HB.out i hlt
          have hle := HLE2.out (i + 1)
          generalize balK 0 0 X (i + 1) = za at *
          generalize balK 0 0 L (i + 1) = xa at *
          have hnl : ¬ za < xa := by omega
          have hi0 : (0 : Int) ≤ (i : Int) := by omega
          have hi1 : (i : Int) < 61 := by omega
          have HB2 : Hid (∀ q, Below w6.heap.size w6 (wr.drewN q)) := Lib.hid fun q => below_drewN HB.out q
          clear CX CA HLE2 hle
          go_wp2
          go_quiet (fail)
          go_wp2
          go_roundw
          case rel => exact ⟨i + 1, by first | rfl | go_num, by omega, Lib.hid (HB2.out _)⟩
          case measure => simp [RowKit.intOf]; omega
        · obtain rfl : i = 61 := by omega
          have HSX := Lib.hid (HSN.out wr)
          clear CX CA HLE2
          go_wp2_with (go_at_call 12; with_reducible refine Calls.mono (HSX.out) ?_; rintro e w11 ⟨rfl, b11⟩; have HB11 := Lib.hid (HB.out.trans (b11.mono HB.out.size)); clear b11)
          go_ret
          exact ⟨rfl, HWW.out.trans (HB11.out.mono HWW.out.size)⟩

end Go.Proofs.Ythajkhonapjihaa
