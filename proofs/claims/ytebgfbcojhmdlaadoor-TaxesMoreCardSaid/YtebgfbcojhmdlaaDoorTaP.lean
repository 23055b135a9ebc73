/- taxes.Tax, Amount, Days of right taxes. -/
import Derived.Test.YtebgfbcojhmdlaaDoorTaW
import Derived.Test.YtebgfbcojhmdlaaDoorClParts
import Derived.Test.YtebgfbcojhmdlaaDoorPut
import Derived.Deep.DeepCutAuto
set_option linter.unusedSimpArgs false
set_option linter.unusedVariables false
namespace Go.Proofs.YtebgfbcojhmdlaaDoor
open Go.RowKit Go.Lib Go.Proofs

theorem own_ne3 {W : World} {base n size b : Nat} {v : Value} {e t : TypeId} {xs : List Value} {cs : Array Value} {f : Nat × Nat} (h : W.ownsRow base e size v n xs) (hb : W.heap[b]? = some (.cells cs t f)) (hne : t ≠ e) : some b ≠ v.ownBlock := by
  rcases h.2 with ⟨rfl, _⟩ | ⟨g', cap', cur, rfl, _, hg, _⟩
  · intro q; cases q
  · intro q
    have q2 : some b = some g' := q
    injection q2 with q2
    subst q2
    rw [hb] at hg
    injection hg with hg
    injection hg with _ hg _
    exact hne hg
theorem next_day28 {d : Int} (h0 : 0 ≤ d) (h1 : d ≤ 35990) (w : World) : Calls Tryd.prog 19 #[.int .i64 d] w fun e w' => e = .returned (.tuple #[.int .i64 (nextI d), .int .i64 0]) ∧ w = w' := by
  have h := cNext_any d w
  have hd : dayB d = true := dayB_true.2 ⟨h0, by omega⟩
  obtain ⟨f1, f2, -, -⟩ := nextI_facts d h0
  have hn : dayB (nextI d) = true := dayB_true.2 ⟨by omega, by omega⟩
  have hc : checkedI (nextI d) = (nextI d, 0) := by unfold checkedI; rw [if_pos hn]
  rw [if_pos hd, if_pos hd, hc] at h
  exact h
set_option maxHeartbeats 1000000 in
theorem tawithin_yes {n lo hi : Int} (w : World) (h1 : lo ≤ n) (h2 : n ≤ hi) : Calls Tryd.prog 22 #[.int .i64 n, .int .i64 lo, .int .i64 hi] w fun e w' => e = .returned (.bool true) ∧ w = w' := by
  go_enter Tryd.func22, Tryd.ntmps22
  go_wp2
  go_ret
  exact ⟨rfl, rfl⟩
set_option maxHeartbeats 1000000 in
theorem taisCode_yes {c : ByteArray} (h0 : 0 < (partsN c).length) (h1 : c.size ≤ 1000000) (w : World) (hL : Lay w) : Calls Tryd.prog 21 #[.string c] w fun e w' => e = .returned (.bool true) ∧ Below w.heap.size w w' := by
  have HPT := Lib.hid (clParts_any c w hL h1)
  unfold PartsPost at HPT
  obtain ⟨n, hn⟩ : ∃ n, n = (partsN c).length := ⟨_, rfl⟩
  rw [← hn] at h0
  clear hL
  go_enter Tryd.func21, Tryd.ntmps21
  go_wp2_with fail
  refine (HPT.out).mono ?_
  rintro e w2 ⟨v, rfl, hown, hb2⟩
  obtain ⟨av, cv, rfl, -, -⟩ := owns_gen hown
  rw [← hn]
  have HB2 := Lib.hid hb2
  clear hown hb2 hn
  go_wp2
  go_ret
  exact ⟨rfl, HB2.out⟩

set_option maxRecDepth 100000 in
set_option maxHeartbeats 4000000 in
theorem taTax_yes {t : Tx} (h : TxG t) (w : World) (hL : Lay w) : Calls Tryd.prog 14 #[.agg (txC t).toArray] w fun e w' => e = .returned (.bool true) ∧ Below w.heap.size w w' := by
  obtain ⟨c0, c1, c2, c3, c4, c5, c6, c7⟩ := t
  obtain ⟨h0, h1, h2, h3, h4, h5, h6, h7⟩ := h
  simp only at h0 h1 h2 h3 h4 h5 h6 h7
  simp only [txC]
  obtain ⟨w1, hw1⟩ : ∃ W, W = w.alloc (.cells #[.string c0, .int .i64 c1, .int .i64 c2, .int .i64 c3, .int .i64 c4, .int .i64 c5, .int .i64 c6, .int .i64 c7] 27) := ⟨_, rfl⟩
  obtain ⟨bX, hbX⟩ : ∃ q, q = w.heap.size := ⟨_, rfl⟩
  have HB1 : Hid (Below w.heap.size w w1) := Lib.hid (by rw [hw1]; exact below_alloc _ _)
  have HX1 : Hid (w1.heap[bX]? = some (.cells #[.string c0, .int .i64 c1, .int .i64 c2, .int .i64 c3, .int .i64 c4, .int .i64 c5, .int .i64 c6, .int .i64 c7] 27 (0, 0))) := Lib.hid (by rw [hw1, hbX]; exact heap_alloc_new _ _)
  have HW1 := Lib.hid hw1
  have HBX := Lib.hid hbX
  have hx1 := HX1.out
  have q0 := obj_cell hx1 0
  have q1 := obj_cell hx1 1
  have q2 := obj_cell hx1 2
  have q3 := obj_cell hx1 3
  have q4 := obj_cell hx1 4
  have q5 := obj_cell hx1 5
  have q6 := obj_cell hx1 6
  have q7 := obj_cell hx1 7
  simp at q0 q1 q2 q3 q4 q5 q6 q7
  clear hw1 hbX hx1
  have HIC := Lib.hid (taisCode_yes h0.1 h0.2 w1 (hL.below HB1.out (Nat.le_refl _)))
  clear hL h0
  go_enter Tryd.func14, Tryd.ntmps14
  go_upto_region 1 with fail
  rw [← HW1.out, ← HBX.out]
  go_wp2_with fail
  refine (HIC.out).mono ?_
  rintro e w2 ⟨rfl, hb2⟩
  have HB2 := Lib.hid (HB1.out.trans (hb2.mono HB1.out.size))
  have hx1 := obj_below HX1.out hb2
  clear q0 q1 q2 q3 q4 q5 q6 q7 hb2
  have q0 := obj_cell hx1 0
  have q1 := obj_cell hx1 1
  have q2 := obj_cell hx1 2
  have q3 := obj_cell hx1 3
  have q4 := obj_cell hx1 4
  have q5 := obj_cell hx1 5
  have q6 := obj_cell hx1 6
  have q7 := obj_cell hx1 7
  simp at q0 q1 q2 q3 q4 q5 q6 q7
  clear hx1
  go_wp2_with (first
    | (go_at_call 22; refine (tawithin_yes _ (by omega) (by omega)).mono ?_; rintro e w' ⟨rfl, rfl⟩)
    | (go_at_call 23; refine (Valid_yes _ (by omega) (by omega)).mono ?_; rintro e w' ⟨rfl, rfl⟩))
  go_ret
  exact ⟨rfl, HB2.out⟩

set_option maxRecDepth 100000 in
set_option maxHeartbeats 4000000 in
theorem taAmount_ok {t : Tx} (h : TxG t) (w : World) (hL : Lay w) : Calls Tryd.prog 7 #[.agg (txC t).toArray] w fun e w' => e = .returned (.int .i64 (amtT t)) ∧ Below w.heap.size w w' := by
  have HTX := Lib.hid (fun W (hW : Below w.heap.size w W) => taTax_yes h W (hL.below hW (Nat.le_refl _)))
  have h2 := h.base
  have h3 := h.den
  have h4 := h.num
  have hle := scale_le h2.1 h4.1 h4.2 h3.1
  have HSH := Lib.hid (fun W => mShare_ok (a := t.base) (n := t.num) (d := t.den) h2.1 h2.2 h4.1 (by omega) h3.1 h3.2 (by omega) W)
  unfold amtT
  obtain ⟨q, hq⟩ : ∃ q, q = scaleI t.base t.num t.den := ⟨_, rfl⟩
  rw [← hq] at HSH ⊢
  clear hq h hle h2 h3 h4
  obtain ⟨c0, c1, c2, c3, c4, c5, c6, c7⟩ := t
  simp only [txC] at HTX HSH ⊢
  obtain ⟨w1, hw1⟩ : ∃ W, W = w.alloc (.cells #[.string c0, .int .i64 c1, .int .i64 c2, .int .i64 c3, .int .i64 c4, .int .i64 c5, .int .i64 c6, .int .i64 c7] 27) := ⟨_, rfl⟩
  obtain ⟨bX, hbX⟩ : ∃ q, q = w.heap.size := ⟨_, rfl⟩
  have HB1 : Hid (Below w.heap.size w w1) := Lib.hid (by rw [hw1]; exact below_alloc _ _)
  have HX1 : Hid (w1.heap[bX]? = some (.cells #[.string c0, .int .i64 c1, .int .i64 c2, .int .i64 c3, .int .i64 c4, .int .i64 c5, .int .i64 c6, .int .i64 c7] 27 (0, 0))) := Lib.hid (by rw [hw1, hbX]; exact heap_alloc_new _ _)
  have HW1 := Lib.hid hw1
  have HBX := Lib.hid hbX
  have hx1 := HX1.out
  have q0 := obj_cell hx1 0
  have q1 := obj_cell hx1 1
  have q2 := obj_cell hx1 2
  have q3 := obj_cell hx1 3
  have q4 := obj_cell hx1 4
  have q5 := obj_cell hx1 5
  have q6 := obj_cell hx1 6
  have q7 := obj_cell hx1 7
  simp at q0 q1 q2 q3 q4 q5 q6 q7
  clear hw1 hbX hx1
  clear hL
  go_enter Tryd.func7, Tryd.ntmps7
  go_upto_region 1 with fail
  rw [← HW1.out, ← HBX.out]
  go_wp2_with fail
  refine (HTX.out _ HB1.out).mono ?_
  rintro e w2 ⟨rfl, hb2⟩
  have HB2 := Lib.hid (HB1.out.trans (hb2.mono HB1.out.size))
  have hx1 := obj_below HX1.out hb2
  clear q0 q1 q2 q3 q4 q5 q6 q7 hb2
  have q0 := obj_cell hx1 0
  have q1 := obj_cell hx1 1
  have q2 := obj_cell hx1 2
  have q3 := obj_cell hx1 3
  have q4 := obj_cell hx1 4
  have q5 := obj_cell hx1 5
  have q6 := obj_cell hx1 6
  have q7 := obj_cell hx1 7
  simp at q0 q1 q2 q3 q4 q5 q6 q7
  clear hx1
  go_wp2_with fail
  refine (HSH.out _).mono ?_
  rintro e w3 ⟨rfl, rfl⟩
  go_wp2
  go_ret
  exact ⟨rfl, HB2.out⟩

set_option maxRecDepth 100000 in
set_option maxHeartbeats 4000000 in
theorem taDays_ok {t : Tx} (h : TxG t) (w : World) (hL : Lay w) : Calls Tryd.prog 9 #[.agg (txC t).toArray] w fun e w' => ∃ v, e = .returned v ∧ w'.ownsRow w.heap.size 3 1 v t.tms.toNat (cellsI (daysT t t.tms.toNat)) ∧ Below w.heap.size w w' := by
  obtain ⟨i0, hi0, hz0, hz1, hz2⟩ := info_parts Tryd.infoInt
  have HTX := Lib.hid (fun W (hW : Below w.heap.size w W) => taTax_yes h W (hL.below hW (Nat.le_refl _)))
  have HPL := Lib.hid (fun (i : Nat) (hi : i ≤ 10) => plan_in h hi)
  have HDY := Lib.hid (fun (i : Nat) (hi : i ≤ 10) => day_facts h hi)
  have HSU := Lib.hid (fun (i : Nat) => daysT_succ t i)
  have HPD : Hid (∀ i : Nat, planT t i = t.fst + (i : Int) * t.evr * 30) := Lib.hid fun i => rfl
  have HDD : Hid (∀ i : Nat, dayT t i = nextI (planT t i)) := Lib.hid fun i => rfl
  obtain ⟨n, hn⟩ : ∃ n, n = t.tms.toNat := ⟨_, rfl⟩
  have h7 := h.tms
  have hn7 : t.tms = (n : Int) := by omega
  have h5 := h.fst
  have h6 := h.evr
  rw [← hn]
  obtain ⟨DT, hDT⟩ : ∃ D, D = daysT t := ⟨_, rfl⟩
  obtain ⟨PT, hPT⟩ : ∃ D, D = planT t := ⟨_, rfl⟩
  obtain ⟨YT, hYT⟩ : ∃ D, D = dayT t := ⟨_, rfl⟩
  rw [← hDT, ← hYT] at HSU
  rw [← hPT] at HPL HPD HDD HDY
  rw [← hYT] at HDD HDY
  rw [← hDT]
  have HD0 : Hid (DT 0 = []) := Lib.hid (by rw [hDT]; rfl)
  have HLN : Hid (∀ i, (DT i).length = i) := Lib.hid fun i => by rw [hDT]; exact daysT_len t i
  clear hn hDT hPT hYT h
  obtain ⟨c0, c1, c2, c3, c4, c5, c6, c7⟩ := t
  simp only at hn7 h5 h6 h7 HPD HPL
  subst hn7
  simp only [txC] at HTX ⊢
  obtain ⟨w1, hw1⟩ : ∃ W, W = w.alloc (.cells #[.string c0, .int .i64 c1, .int .i64 c2, .int .i64 c3, .int .i64 c4, .int .i64 c5, .int .i64 c6, .int .i64 (n : Int)] 27) := ⟨_, rfl⟩
  obtain ⟨bX, hbX⟩ : ∃ q, q = w.heap.size := ⟨_, rfl⟩
  have HB1 : Hid (Below w.heap.size w w1) := Lib.hid (by rw [hw1]; exact below_alloc _ _)
  have HX1 : Hid (w1.heap[bX]? = some (.cells #[.string c0, .int .i64 c1, .int .i64 c2, .int .i64 c3, .int .i64 c4, .int .i64 c5, .int .i64 c6, .int .i64 (n : Int)] 27 (0, 0))) := Lib.hid (by rw [hw1, hbX]; exact heap_alloc_new _ _)
  have HW1 := Lib.hid hw1
  have HBX := Lib.hid hbX
  have hx1 := HX1.out
  have q0 := obj_cell hx1 0
  have q1 := obj_cell hx1 1
  have q2 := obj_cell hx1 2
  have q3 := obj_cell hx1 3
  have q4 := obj_cell hx1 4
  have q5 := obj_cell hx1 5
  have q6 := obj_cell hx1 6
  have q7 := obj_cell hx1 7
  simp at q0 q1 q2 q3 q4 q5 q6 q7
  clear hw1 hbX hx1
  clear hL
  go_enter Tryd.func9, Tryd.ntmps9
  go_upto_region 1 with fail
  rw [← HW1.out, ← HBX.out]
  go_wp2_with fail
  refine (HTX.out _ HB1.out).mono ?_
  rintro e w2 ⟨rfl, hb2⟩
  have HB2 := Lib.hid (HB1.out.trans (hb2.mono HB1.out.size))
  have HX2 := Lib.hid (obj_below HX1.out hb2)
  have hx1 := HX2.out
  clear q0 q1 q2 q3 q4 q5 q6 q7 hb2
  have q7 := obj_cell hx1 7
  simp at q7
  clear hx1
  go_wp2
  go_loopw [3, 12] (fun dv iv wr => ∃ (i : Nat) (v : Value), dv = v ∧ iv = .int .i64 (i : Int) ∧ i ≤ n ∧ Hid (wr.ownsRow w.heap.size 3 1 v i (cellsI (DT i))) ∧ Hid (Below w.heap.size w wr) ∧ Hid (wr.heap[bX]? = some (.cells #[.string c0, .int .i64 c1, .int .i64 c2, .int .i64 c3, .int .i64 c4, .int .i64 c5, .int .i64 c6, .int .i64 (n : Int)] 27 (0, 0)))) (fun _ iv _ => n - (RowKit.intOf iv).toNat)
  case atStart => exact ⟨0, _, rfl, rfl, by omega, Lib.hid (by rw [HD0.out]; exact World.ownsRow_nil _ _ _ _), HB2, HX2⟩
  case round =>
    clear HB2 HX2 q7
    obtain ⟨i, v, rfl, rfl, hin, HO, HB, HX⟩ := hrel
    obtain ⟨av, cv, rfl, -, -⟩ := owns_gen HO.out
    by_cases hlt : i < n
    · have hx := HX.out
      have q5 := obj_cell hx 5
      have q6 := obj_cell hx 6
      have q7 := obj_cell hx 7
      simp at q5 q6 q7
      obtain ⟨p0, p1, p2, p3⟩ := HPL.out i (by omega)
      obtain ⟨m, hm⟩ : ∃ m, m = (i : Int) * c6 := ⟨_, rfl⟩
      have hpd := HPD.out i
      rw [← hm] at p2 p3 hpd
      have hwm : IntKind.i64.wrap ((i : Int) * c6) = m := by rw [← hm]; exact IntWalk.i64_in _ (by omega)
      have hw3 : IntKind.i64.wrap (m * 30) = m * 30 := IntWalk.i64_in _ (by omega)
      have hwp : IntKind.i64.wrap (c5 + m * 30) = PT i := by rw [hpd]; exact IntWalk.i64_in _ (by omega)
      have hi0' : (0 : Int) ≤ (i : Int) := by omega
      have hi1 : (i : Int) < (n : Int) := by omega
      have hwi : IntKind.i64.wrap ((i : Int) + 1) = (i : Int) + 1 := IntWalk.i64_in _ (by omega)
      have HNX : Hid (∀ W, Calls Tryd.prog 19 #[.int .i64 (PT i)] W fun e w' => e = .returned (.tuple #[.int .i64 (YT i), .int .i64 0]) ∧ W = w') := Lib.hid fun W => by
        rw [HDD.out i]
        exact next_day28 p0 (by omega) W
      have hy := (HDY.out i (by omega)).2.2.2
      have HST : Hid (cellsI (DT (i + 1)) = cellsI (DT i) ++ [.int .i64 (YT i)]) := Lib.hid (by rw [HSU.out i, cellsI_snoc])
      have HBX' := Lib.hid (fun (W : World) (hW : Below wr.heap.size wr W) => obj_below HX.out hW)
      generalize YT i = y at *
      clear hx hpd hm
      go_wp2_with fail
      with_reducible refine Calls.mono (HNX.out _) ?_
      rintro e w3 ⟨rfl, rfl⟩
      go_wp2_with (at_builtin; refine wpList_append_own _ rfl _ _ 22 rfl w.heap.size 3 i0 (.int .i64 0) 1 8 Tryd.underlying22 hi0 hz0 hz1 hz2 rfl (by decide) _ _ _ rfl (HO.out.alloc _) ⟨wr.heap.size, 0, none⟩ 1 1 [.int .i64 y] rfl rfl (one_new _ _ _ _ rfl) (one_int _ _) (by unfold maxLen; omega) (by omega) (by have := HB.out.size; simp; omega) ?_; intro v' w9 hown9 hgr9 _)
      have HO9 : Hid (w9.ownsRow w.heap.size 3 1 v' (i + 1) (cellsI (DT (i + 1)))) := Lib.hid (by rw [HST.out]; exact hown9)
      have HB9 : Hid (Below w.heap.size w w9) := Lib.hid ((HB.out.alloc HB.out.size _).grown hgr9 (by have := HB.out.size; simp; omega) fun j e => ownBlock_le HO.out j e)
      have HX9 : Hid (w9.heap[bX]? = some (.cells #[.string c0, .int .i64 c1, .int .i64 c2, .int .i64 c3, .int .i64 c4, .int .i64 c5, .int .i64 c6, .int .i64 (n : Int)] 27 (0, 0))) := Lib.hid ((hgr9.block bX (by have := obj_lt HX.out; simp; omega) (own_ne3 HO.out HX.out (by decide))).trans (HBX'.out _ (below_alloc _ _)))
      clear hown9 hgr9
      go_wp2
      go_roundw
      case rel => exact ⟨i + 1, v', rfl, by first | rfl | go_num, by omega, HO9, HB9, HX9⟩
      case measure => simp [RowKit.intOf]; omega
    · obtain rfl : n = i := by omega
      have hx := HX.out
      have q7 := obj_cell hx 7
      simp at q7
      clear hx
      go_wp2
      go_ret
      exact ⟨_, rfl, HO.out, HB.out⟩

end Go.Proofs.YtebgfbcojhmdlaaDoor
