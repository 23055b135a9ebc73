/- A greater base, or a greater share, never brings less, and what a tax brings is at most its base: for every tape and number. -/
import Derived.Test.YtebgfbcojhmdlaaDoorTaS
import Derived.Test.YtebgfbcojhmdlaaDoorRegInv
set_option linter.unusedSimpArgs false
set_option linter.unusedVariables false
namespace Go.Proofs.YtebgfbcojhmdlaaDoor
open Go.RowKit Go.Lib Go.Proofs

theorem flag_set (L : Array Bool) (i j : Nat) (hi : i < L.size) : (L.setIfInBounds i true).getD j false = if i = j then true else L.getD j false := by
  simp only [Array.getD_eq_getD_getElem?, Array.getElem?_setIfInBounds]
  by_cases h : i = j
  · subst h; simp [hi]
  · simp [h]
theorem flag_un {L : Array Bool} {i : Nat} (hi : i < L.size) (h : L.getD i true = false) : ¬ L.getD i false = true := by
  simp only [Array.getD_eq_getD_getElem?, Array.getElem?_eq_getElem hi, Option.getD_some] at h ⊢
  rw [h]; decide
theorem flag_same (L : Array Bool) (i : Nat) (hi : i < L.size) : (L.setIfInBounds i true).getD i false = true := by rw [flag_set _ _ _ hi, if_pos rfl]
theorem dep_listed {ops : Array Oper} {L : Array Bool} {i j : Nat} (hdep : ∀ o, ops[i]? = some o → ∀ e ∈ o.after, Region.binds .any e = true → L.getD e.on false = true) (h : depB ops i j = true) : L.getD j false = true := by
  unfold depB at h
  cases ho : ops[i]? with
  | none => rw [ho] at h; cases h
  | some o =>
    rw [ho] at h
    simp only [Option.map_some, Option.getD_some] at h
    rw [Array.any_eq_true'] at h
    obtain ⟨e, he, h2⟩ := h
    simp only [Bool.and_eq_true, decide_eq_true_eq] at h2
    rw [← h2.2]
    exact hdep o ho e he h2.1
theorem eight_cells {W : World} {b : Nat} {cs : Array Value} {T : TypeId} (h : W.heap[b]? = some (.cells cs T (0, 0))) (hs : cs.size = 8) : (∃ u, W.cell? ⟨b, 0, none⟩ = some u) ∧ (∃ u, W.cell? ⟨b, 1, none⟩ = some u) ∧ (∃ u, W.cell? ⟨b, 2, none⟩ = some u) ∧ (∃ u, W.cell? ⟨b, 3, none⟩ = some u) ∧ (∃ u, W.cell? ⟨b, 4, none⟩ = some u) ∧ (∃ u, W.cell? ⟨b, 5, none⟩ = some u) ∧ (∃ u, W.cell? ⟨b, 6, none⟩ = some u) ∧ ∃ u, W.cell? ⟨b, 7, none⟩ = some u := by
  have key : ∀ j, j < 8 → ∃ u, W.cell? ⟨b, j, none⟩ = some u := fun j hj => ⟨cs[j]'(by omega), by rw [obj_cell h j]; exact Array.getElem?_eq_getElem (by omega)⟩
  exact ⟨key 0 (by decide), key 1 (by decide), key 2 (by decide), key 3 (by decide), key 4 (by decide), key 5 (by decide), key 6 (by decide), key 7 (by decide)⟩
/-- Within y, z := x, x: what stands in the slots, and in the two boxes. -/
def MoreJ (w3 : World) (C : Array Value) (L : Array Bool) (f : Nat → Value) (W : World) : Prop :=
  Below w3.heap.size w3 W ∧ (L.getD 0 false = true → f 13 = .agg C) ∧ (L.getD 1 false = true → f 14 = .agg C) ∧
  (L.getD 2 false = true → ∃ b cs, f 7 = .pointer (some ⟨b, 0, none⟩) ∧ w3.heap.size ≤ b ∧ cs.size = 8 ∧ W.heap[b]? = some (.cells cs 27 (0, 0)) ∧ (L.getD 4 false = true → cs = C)) ∧
  (L.getD 3 false = true → ∃ b cs, f 8 = .pointer (some ⟨b, 0, none⟩) ∧ w3.heap.size ≤ b ∧ cs.size = 8 ∧ W.heap[b]? = some (.cells cs 27 (0, 0)) ∧ (L.getD 5 false = true → cs = C)) ∧
  (L.getD 2 false = true → L.getD 3 false = true → f 7 ≠ f 8) ∧ (L.getD 4 false = true → L.getD 2 false = true) ∧ (L.getD 5 false = true → L.getD 3 false = true)

set_option maxRecDepth 100000 in
set_option maxHeartbeats 16000000 in
theorem taxmore_any (v : Value) (n : Nat) (a : Int) (w : World) (hi : IntsAt w v n w.heap.size) (hn : n ≤ 9223372036854775807) (ha : 0 ≤ a) (ha1 : a ≤ 65535) (hL : Lay w) :
    Calls Tryd.prog 3 #[v, .int .u16 a] w fun e w' => e = .returned (.bool true) ∧ Below w.heap.size w w' := by
  have HNEW := Lib.hid (sNew_any v n w hi hn)
  have HLAY := Lib.hid (fun W (hW : Below w.heap.size w W) => hL.below hW (Nat.le_refl _))
  clear hi hn hL
  go_enter Tryd.func3, Tryd.ntmps3
  go_wp2_with fail
  refine (HNEW.out).mono ?_
  rintro e w1 ⟨rfl, t1, b1⟩
  obtain ⟨tb, htb⟩ : ∃ tb, tb = w.heap.size := ⟨_, rfl⟩
  rw [← htb] at t1 ⊢
  have HTB := Lib.hid htb
  have HST := Lib.hid (sTax_any tb w1 t1)
  have HFIN : Hid (∀ W, SI w1 tb W → Below w.heap.size w W) := Lib.hid fun W hW => b1.grown hW.old b1.size (fun q e => by injection e with e; omega)
  clear t1 b1 HNEW htb
  go_wp2_with fail
  refine (HST.out).mono ?_
  rintro e w2 ⟨t, rfl, hts, hsi⟩
  have HB2 := Lib.hid (HFIN.out _ hsi)
  have HTG := Lib.hid hts.ok
  have htb := hts.base
  clear hts hsi HST HFIN
  obtain ⟨r, hr⟩ : ∃ q, q = a.tmod 5 := ⟨_, rfl⟩
  have hr0 : 0 ≤ r := by rw [hr]; exact Int.tmod_nonneg _ ha
  have hr5 : r < 5 := by rw [hr]; exact Int.tmod_lt_of_pos _ (by omega)
  have hg := HTG.out
  obtain ⟨c0, c1, c2, c3, c4, c5, c6, c7⟩ := t
  have hb := hg.base
  have hd := hg.den
  have hn := hg.num
  simp only at htb hb hd hn
  have HYG : Hid (TxG ⟨c0, c1, c2 + a, c3, c4, c5, c6, c7⟩) := Lib.hid ⟨hg.code, hg.payer, by show 0 ≤ c2 + a ∧ c2 + a ≤ 10000000; omega, hg.den, hg.num, hg.fst, hg.evr, hg.tms⟩
  have HZG : Hid (TxG ⟨c0, c1, c2, min (c3 + r) c4, c4, c5, c6, c7⟩) := Lib.hid ⟨hg.code, hg.payer, hg.base, hg.den, by show 0 ≤ min (c3 + r) c4 ∧ min (c3 + r) c4 ≤ c4; omega, hg.fst, hg.evr, hg.tms⟩
  have HAX := Lib.hid (fun W (hW : Below w.heap.size w W) => taAmount_ok HTG.out W (HLAY.out W hW))
  have HAY := Lib.hid (fun W (hW : Below w.heap.size w W) => taAmount_ok HYG.out W (HLAY.out W hW))
  have HAZ := Lib.hid (fun W (hW : Below w.heap.size w W) => taAmount_ok HZG.out W (HLAY.out W hW))
  unfold amtT at HAX HAY HAZ
  simp only at HAX HAY HAZ
  have e1 := scale_base (b := c2) (c := c2 + a) (n := c3) (d := c4) (by omega) hn.1 hd.1
  have e2 := scale_num (b := c2) (n := c3) (m := min (c3 + r) c4) (d := c4) (by omega) hb.1 hd.1
  have e3 := scale_le hb.1 hn.1 hn.2 hd.1
  obtain ⟨x, hx⟩ : ∃ q, q = scaleI c2 c3 c4 := ⟨_, rfl⟩
  obtain ⟨y, hy⟩ : ∃ q, q = scaleI (c2 + a) c3 c4 := ⟨_, rfl⟩
  obtain ⟨z, hz⟩ : ∃ q, q = scaleI c2 (min (c3 + r) c4) c4 := ⟨_, rfl⟩
  rw [← hx] at HAX e1 e2 e3
  rw [← hy] at HAY e1
  rw [← hz] at HAZ e2
  obtain ⟨yb, hyb⟩ : ∃ q, q = c2 + a := ⟨_, rfl⟩
  obtain ⟨zn, hzn⟩ : ∃ q, q = min (c3 + r) c4 := ⟨_, rfl⟩
  rw [← hyb] at HAY
  rw [← hzn] at HAZ
  have hwa : IntKind.i64.wrap a = a := IntWalk.i64_in _ (by omega)
  have hwr : IntKind.i64.wrap r = r := IntWalk.i64_in _ (by omega)
  have hwb : IntKind.i64.wrap (c2 + a) = yb := by rw [hyb]; exact IntWalk.i64_in _ (by omega)
  have hwn : IntKind.i64.wrap (c3 + r) = c3 + r := IntWalk.i64_in _ (by omega)
  have hwn64 : wrap64 (c3 + r) = c3 + r := IntWalk.wrap64_in _ (by omega)
  simp only [txC] at HAX HAY HAZ ⊢
  obtain ⟨w3, hw3⟩ : ∃ W, W = w2.alloc (.cells #[.string c0, .int .i64 c1, .int .i64 c2, .int .i64 c3, .int .i64 c4, .int .i64 c5, .int .i64 c6, .int .i64 c7] 27) := ⟨_, rfl⟩
  obtain ⟨bX, hbX⟩ : ∃ q, q = w2.heap.size := ⟨_, rfl⟩
  have HB3 : Hid (Below w.heap.size w w3) := Lib.hid (by rw [hw3]; exact HB2.out.alloc HB2.out.size _)
  have HX3 : Hid (w3.heap[bX]? = some (.cells #[.string c0, .int .i64 c1, .int .i64 c2, .int .i64 c3, .int .i64 c4, .int .i64 c5, .int .i64 c6, .int .i64 c7] 27 (0, 0))) := Lib.hid (by rw [hw3, hbX]; exact heap_alloc_new _ _)
  have HW3 := Lib.hid hw3
  have HBX := Lib.hid hbX
  have HRR := Lib.hid hr
  have HYB := Lib.hid hyb
  have HZN := Lib.hid hzn
  clear hw3 hbX hx hy hz hyb hzn hr hg hb hd hn htb
  go_upto_region 3 with fail
  rw [← HW3.out, ← HBX.out]
  have hx := HX3.out
  have q0 := obj_cell hx 0
  have q1 := obj_cell hx 1
  have q2 := obj_cell hx 2
  have q3 := obj_cell hx 3
  have q4 := obj_cell hx 4
  have q5 := obj_cell hx 5
  have q6 := obj_cell hx 6
  have q7 := obj_cell hx 7
  simp at q0 q1 q2 q3 q4 q5 q6 q7
  clear hx
  have HCX : Hid (∀ W, Below w3.heap.size w3 W → W.cell? ⟨bX, 0, none⟩ = some (.string c0) ∧ W.cell? ⟨bX, 1, none⟩ = some (.int .i64 c1) ∧ W.cell? ⟨bX, 2, none⟩ = some (.int .i64 c2) ∧ W.cell? ⟨bX, 3, none⟩ = some (.int .i64 c3) ∧ W.cell? ⟨bX, 4, none⟩ = some (.int .i64 c4) ∧ W.cell? ⟨bX, 5, none⟩ = some (.int .i64 c5) ∧ W.cell? ⟨bX, 6, none⟩ = some (.int .i64 c6) ∧ W.cell? ⟨bX, 7, none⟩ = some (.int .i64 c7)) := Lib.hid fun W hW => by
    have h := obj_below HX3.out hW
    exact ⟨by simpa using obj_cell h 0, by simpa using obj_cell h 1, by simpa using obj_cell h 2, by simpa using obj_cell h 3, by simpa using obj_cell h 4, by simpa using obj_cell h 5, by simpa using obj_cell h 6, by simpa using obj_cell h 7⟩
  go_cut [7, 8] (fun yv zv wx => ∃ bY bZ : Nat, yv = .pointer (some ⟨bY, 0, none⟩) ∧ zv = .pointer (some ⟨bZ, 0, none⟩) ∧ w3.heap.size ≤ bY ∧ w3.heap.size ≤ bZ ∧ bY ≠ bZ ∧ Hid (Below w3.heap.size w3 wx) ∧ Hid (wx.heap[bY]? = some (.cells #[.string c0, .int .i64 c1, .int .i64 c2, .int .i64 c3, .int .i64 c4, .int .i64 c5, .int .i64 c6, .int .i64 c7] 27 (0, 0))) ∧ Hid (wx.heap[bZ]? = some (.cells #[.string c0, .int .i64 c1, .int .i64 c2, .int .i64 c3, .int .i64 c4, .int .i64 c5, .int .i64 c6, .int .i64 c7] 27 (0, 0))))
  case first =>
    refine wp_region_slots [13, 14, 7, 8] (MoreJ w3 #[.string c0, .int .i64 c1, .int .i64 c2, .int .i64 c3, .int .i64 c4, .int .i64 c5, .int .i64 c6, .int .i64 c7]) (by kernel_rfl) (by kernel_rfl) ⟨(Below.refl _ _).drew, ?_, ?_, ?_, ?_, ?_, ?_, ?_⟩ ?_ ?_
    · intro h; cases h
    · intro h; cases h
    · intro h; cases h
    · intro h; cases h
    · intro h; cases h
    · intro h; cases h
    · intro h; cases h
    · rintro L f W i hs hc ⟨hB, h0, h1, h2, h3, h4, h5, h6⟩ hi hun hdep
      have hs6 : L.size = 6 := hs
      have hi6 : i < 6 := hi
      have hcl := fun j (h : L.getD j false = true) => h
      clear hi hs
      rcases (show i = 0 ∨ i = 1 ∨ i = 2 ∨ i = 3 ∨ i = 4 ∨ i = 5 by omega) with rfl | rfl | rfl | rfl | rfl | rfl
      · have hl : ∀ j, j ≠ 0 → (L.setIfInBounds 0 true).getD j false = L.getD j false := fun j hj => by rw [flag_set _ _ _ (by omega), if_neg (fun e => hj e.symm)]
        generalize ha1 : putsL _ [13, 14, 7, 8] f = a1
        have E6 : a1.tmps[6]?.getD undef = .pointer (some ⟨bX, 0, none⟩) := by rw [← ha1]; exact (putsL_out2 _ _ _ _ (by decide)).trans rfl
        obtain ⟨v0, v1, v2, v3, v4, v5, v6, v7⟩ := HCX.out W hB
        refine wpOp_val rfl rfl (v := .agg #[.string c0, .int .i64 c1, .int .i64 c2, .int .i64 c3, .int .i64 c4, .int .i64 c5, .int .i64 c6, .int .i64 c7]) (w' := W) (by simp [execOp, go_sem, E6, v0, v1, v2, v3, v4, v5, v6, v7]) ⟨updF f 13 (.agg #[.string c0, .int .i64 c1, .int .i64 c2, .int .i64 c3, .int .i64 c4, .int .i64 c5, .int .i64 c6, .int .i64 c7]), by rw [← ha1]; exact putsL_put _ _ _ _ _ (by decide), hB, ?_, ?_, ?_, ?_, ?_, ?_, ?_⟩
        · intro h; exact updF_same _ _ _
        · intro h; rw [hl 1 (by decide)] at h; rw [updF_other _ _ (by decide)]; exact h1 h
        · intro h; rw [hl 2 (by decide)] at h; rw [hl 4 (by decide)]; rw [updF_other _ _ (by decide)]; exact h2 h
        · intro h; rw [hl 3 (by decide)] at h; rw [hl 5 (by decide)]; rw [updF_other _ _ (by decide)]; exact h3 h
        · intro h h'; rw [hl 2 (by decide)] at h; rw [hl 3 (by decide)] at h'; rw [updF_other _ _ (by decide), updF_other _ _ (by decide)]; exact h4 h h'
        · intro h; rw [hl 4 (by decide)] at h; rw [hl 2 (by decide)]; exact h5 h
        · intro h; rw [hl 5 (by decide)] at h; rw [hl 3 (by decide)]; exact h6 h
      · have hl : ∀ j, j ≠ 1 → (L.setIfInBounds 1 true).getD j false = L.getD j false := fun j hj => by rw [flag_set _ _ _ (by omega), if_neg (fun e => hj e.symm)]
        generalize ha1 : putsL _ [13, 14, 7, 8] f = a1
        have E6 : a1.tmps[6]?.getD undef = .pointer (some ⟨bX, 0, none⟩) := by rw [← ha1]; exact (putsL_out2 _ _ _ _ (by decide)).trans rfl
        obtain ⟨v0, v1, v2, v3, v4, v5, v6, v7⟩ := HCX.out W hB
        refine wpOp_val rfl rfl (v := .agg #[.string c0, .int .i64 c1, .int .i64 c2, .int .i64 c3, .int .i64 c4, .int .i64 c5, .int .i64 c6, .int .i64 c7]) (w' := W) (by simp [execOp, go_sem, E6, v0, v1, v2, v3, v4, v5, v6, v7]) ⟨updF f 14 (.agg #[.string c0, .int .i64 c1, .int .i64 c2, .int .i64 c3, .int .i64 c4, .int .i64 c5, .int .i64 c6, .int .i64 c7]), by rw [← ha1]; exact putsL_put _ _ _ _ _ (by decide), hB, ?_, ?_, ?_, ?_, ?_, ?_, ?_⟩
        · intro h; rw [hl 0 (by decide)] at h; rw [updF_other _ _ (by decide)]; exact h0 h
        · intro h; exact updF_same _ _ _
        · intro h; rw [hl 2 (by decide)] at h; rw [hl 4 (by decide)]; rw [updF_other _ _ (by decide)]; exact h2 h
        · intro h; rw [hl 3 (by decide)] at h; rw [hl 5 (by decide)]; rw [updF_other _ _ (by decide)]; exact h3 h
        · intro h h'; rw [hl 2 (by decide)] at h; rw [hl 3 (by decide)] at h'; rw [updF_other _ _ (by decide), updF_other _ _ (by decide)]; exact h4 h h'
        · intro h; rw [hl 4 (by decide)] at h; rw [hl 2 (by decide)]; exact h5 h
        · intro h; rw [hl 5 (by decide)] at h; rw [hl 3 (by decide)]; exact h6 h
      · have hl : ∀ j, j ≠ 2 → (L.setIfInBounds 2 true).getD j false = L.getD j false := fun j hj => by rw [flag_set _ _ _ (by omega), if_neg (fun e => hj e.symm)]
        generalize ha1 : putsL _ [13, 14, 7, 8] f = a1
        refine wpOp_val rfl rfl (v := .pointer (some ⟨W.heap.size, 0, none⟩)) (w' := W.alloc (.cells #[.string ⟨#[]⟩, .int .i64 0, .int .i64 0, .int .i64 0, .int .i64 0, .int .i64 0, .int .i64 0, .int .i64 0] 27)) (by simp [execOp, go_sem]) ⟨updF f 7 (.pointer (some ⟨W.heap.size, 0, none⟩)), by rw [← ha1]; exact putsL_put _ _ _ _ _ (by decide), hB.alloc hB.size _, ?_, ?_, ?_, ?_, ?_, ?_, ?_⟩
        · intro h; rw [hl 0 (by decide)] at h; rw [updF_other _ _ (by decide)]; exact h0 h
        · intro h; rw [hl 1 (by decide)] at h; rw [updF_other _ _ (by decide)]; exact h1 h
        · intro h
          rw [hl 4 (by decide)]; exact ⟨W.heap.size, #[.string ⟨#[]⟩, .int .i64 0, .int .i64 0, .int .i64 0, .int .i64 0, .int .i64 0, .int .i64 0, .int .i64 0], updF_same _ _ _, hB.size, rfl, heap_alloc_new _ _, fun h => absurd (h5 h) (flag_un (by omega) hun)⟩
        · intro h
          exact (by
          rw [hl 3 (by decide)] at h
          rw [hl 5 (by decide), updF_other _ _ (by decide)]
          obtain ⟨b, cs, k1, k2, k3, k4, k5⟩ := h3 h
          exact ⟨b, cs, k1, k2, k3, obj_below k4 (below_alloc _ _), k5⟩)
        · intro h h'
          rw [hl 3 (by decide)] at h'
          obtain ⟨b, cs, k1, k2, k3, k4, k5⟩ := h3 h'
          rw [updF_same, updF_other _ _ (by decide), k1]
          intro e
          have := obj_lt k4
          injection e with e; injection e with e; injection e with e; omega
        · intro h; rw [hl 4 (by decide)] at h; exact flag_same _ _ (by omega)
        · intro h; rw [hl 5 (by decide)] at h; rw [hl 3 (by decide)]; exact h6 h
      · have hl : ∀ j, j ≠ 3 → (L.setIfInBounds 3 true).getD j false = L.getD j false := fun j hj => by rw [flag_set _ _ _ (by omega), if_neg (fun e => hj e.symm)]
        generalize ha1 : putsL _ [13, 14, 7, 8] f = a1
        refine wpOp_val rfl rfl (v := .pointer (some ⟨W.heap.size, 0, none⟩)) (w' := W.alloc (.cells #[.string ⟨#[]⟩, .int .i64 0, .int .i64 0, .int .i64 0, .int .i64 0, .int .i64 0, .int .i64 0, .int .i64 0] 27)) (by simp [execOp, go_sem]) ⟨updF f 8 (.pointer (some ⟨W.heap.size, 0, none⟩)), by rw [← ha1]; exact putsL_put _ _ _ _ _ (by decide), hB.alloc hB.size _, ?_, ?_, ?_, ?_, ?_, ?_, ?_⟩
        · intro h; rw [hl 0 (by decide)] at h; rw [updF_other _ _ (by decide)]; exact h0 h
        · intro h; rw [hl 1 (by decide)] at h; rw [updF_other _ _ (by decide)]; exact h1 h
        · intro h
          exact (by
          rw [hl 2 (by decide)] at h
          rw [hl 4 (by decide), updF_other _ _ (by decide)]
          obtain ⟨b, cs, k1, k2, k3, k4, k5⟩ := h2 h
          exact ⟨b, cs, k1, k2, k3, obj_below k4 (below_alloc _ _), k5⟩)
        · intro h
          rw [hl 5 (by decide)]; exact ⟨W.heap.size, #[.string ⟨#[]⟩, .int .i64 0, .int .i64 0, .int .i64 0, .int .i64 0, .int .i64 0, .int .i64 0, .int .i64 0], updF_same _ _ _, hB.size, rfl, heap_alloc_new _ _, fun h => absurd (h6 h) (flag_un (by omega) hun)⟩
        · intro h h'
          rw [hl 2 (by decide)] at h
          obtain ⟨b, cs, k1, k2, k3, k4, k5⟩ := h2 h
          rw [updF_same, updF_other _ _ (by decide), k1]
          intro e
          have := obj_lt k4
          injection e with e; injection e with e; injection e with e; omega
        · intro h; rw [hl 4 (by decide)] at h; rw [hl 2 (by decide)]; exact h5 h
        · intro h; rw [hl 5 (by decide)] at h; exact flag_same _ _ (by omega)
      · have hl : ∀ j, j ≠ 4 → (L.setIfInBounds 4 true).getD j false = L.getD j false := fun j hj => by rw [flag_set _ _ _ (by omega), if_neg (fun e => hj e.symm)]
        have hdp : ∀ j, depB _ 4 j = true → L.getD j false = true := fun j hj => dep_listed hdep hj
        have hv := h0 (hdp 0 (by kernel_rfl))
        obtain ⟨b, cs, k1, k2, k3, k4, k5⟩ := h2 (hdp 2 (by kernel_rfl))
        generalize ha1 : putsL _ [13, 14, 7, 8] f = a1
        have EP : a1.tmps[7]?.getD undef = .pointer (some ⟨b, 0, none⟩) := by rw [← ha1]; exact (putsL_in2 _ _ _ _ (by decide) (show 7 < 53 from by decide)).trans k1
        have EV : a1.tmps[13]?.getD undef = .agg #[.string c0, .int .i64 c1, .int .i64 c2, .int .i64 c3, .int .i64 c4, .int .i64 c5, .int .i64 c6, .int .i64 c7] := by rw [← ha1]; exact (putsL_in2 _ _ _ _ (by decide) (show 13 < 53 from by decide)).trans hv
        obtain ⟨⟨u0, p0⟩, ⟨u1, p1⟩, ⟨u2, p2⟩, ⟨u3, p3⟩, ⟨u4, p4⟩, ⟨u5, p5⟩, ⟨u6, p6⟩, ⟨u7, p7⟩⟩ := eight_cells k4 k3
        have f0 := obj_free k4 0
        have f1 := obj_free k4 1
        have f2 := obj_free k4 2
        have f3 := obj_free k4 3
        have f4 := obj_free k4 4
        have f5 := obj_free k4 5
        have f6 := obj_free k4 6
        have f7 := obj_free k4 7
        refine wpOp_skip rfl rfl (w' := put8 W b (.string c0) (.int .i64 c1) (.int .i64 c2) (.int .i64 c3) (.int .i64 c4) (.int .i64 c5) (.int .i64 c6) (.int .i64 c7)) (by unfold put8; simp [execOp, go_sem, EP, EV, p0, p1, p2, p3, p4, p5, p6, p7, f0, f1, f2, f3, f4, f5, f6, f7]) ⟨f, by rw [← ha1]; rfl, put8_below hB k2 _ _ _ _ _ _ _ _, ?_, ?_, ?_, ?_, ?_, ?_, ?_⟩
        · intro h; rw [hl 0 (by decide)] at h; exact h0 h
        · intro h; rw [hl 1 (by decide)] at h; exact h1 h
        · intro h
          exact ⟨b, #[.string c0, .int .i64 c1, .int .i64 c2, .int .i64 c3, .int .i64 c4, .int .i64 c5, .int .i64 c6, .int .i64 c7], k1, k2, rfl, put8_at k4 k3 _ _ _ _ _ _ _ _, fun _ => rfl⟩
        · intro h
          exact (by
          rw [hl 3 (by decide)] at h
          rw [hl 5 (by decide)]
          obtain ⟨b', cs', k1', k2', k3', k4', k5'⟩ := h3 h
          have hbb : b' ≠ b := by
            rintro rfl
            exact h4 (hdp 2 (by kernel_rfl)) h (by rw [k1, k1'])
          exact ⟨b', cs', k1', k2', k3', ((put8_grown W b _ _ _ _ _ _ _ _).block b' (obj_lt k4') (by simp [hbb])).trans k4', k5'⟩)
        · intro h h'; rw [hl 2 (by decide)] at h; rw [hl 3 (by decide)] at h'; exact h4 h h'
        · intro h; rw [hl 2 (by decide)]; exact hdp 2 (by kernel_rfl)
        · intro h; rw [hl 5 (by decide)] at h; rw [hl 3 (by decide)]; exact h6 h
      · have hl : ∀ j, j ≠ 5 → (L.setIfInBounds 5 true).getD j false = L.getD j false := fun j hj => by rw [flag_set _ _ _ (by omega), if_neg (fun e => hj e.symm)]
        have hdp : ∀ j, depB _ 5 j = true → L.getD j false = true := fun j hj => dep_listed hdep hj
        have hv := h1 (hdp 1 (by kernel_rfl))
        obtain ⟨b, cs, k1, k2, k3, k4, k5⟩ := h3 (hdp 3 (by kernel_rfl))
        generalize ha1 : putsL _ [13, 14, 7, 8] f = a1
        have EP : a1.tmps[8]?.getD undef = .pointer (some ⟨b, 0, none⟩) := by rw [← ha1]; exact (putsL_in2 _ _ _ _ (by decide) (show 8 < 53 from by decide)).trans k1
        have EV : a1.tmps[14]?.getD undef = .agg #[.string c0, .int .i64 c1, .int .i64 c2, .int .i64 c3, .int .i64 c4, .int .i64 c5, .int .i64 c6, .int .i64 c7] := by rw [← ha1]; exact (putsL_in2 _ _ _ _ (by decide) (show 14 < 53 from by decide)).trans hv
        obtain ⟨⟨u0, p0⟩, ⟨u1, p1⟩, ⟨u2, p2⟩, ⟨u3, p3⟩, ⟨u4, p4⟩, ⟨u5, p5⟩, ⟨u6, p6⟩, ⟨u7, p7⟩⟩ := eight_cells k4 k3
        have f0 := obj_free k4 0
        have f1 := obj_free k4 1
        have f2 := obj_free k4 2
        have f3 := obj_free k4 3
        have f4 := obj_free k4 4
        have f5 := obj_free k4 5
        have f6 := obj_free k4 6
        have f7 := obj_free k4 7
        refine wpOp_skip rfl rfl (w' := put8 W b (.string c0) (.int .i64 c1) (.int .i64 c2) (.int .i64 c3) (.int .i64 c4) (.int .i64 c5) (.int .i64 c6) (.int .i64 c7)) (by unfold put8; simp [execOp, go_sem, EP, EV, p0, p1, p2, p3, p4, p5, p6, p7, f0, f1, f2, f3, f4, f5, f6, f7]) ⟨f, by rw [← ha1]; rfl, put8_below hB k2 _ _ _ _ _ _ _ _, ?_, ?_, ?_, ?_, ?_, ?_, ?_⟩
        · intro h; rw [hl 0 (by decide)] at h; exact h0 h
        · intro h; rw [hl 1 (by decide)] at h; exact h1 h
        · intro h
          exact (by
          rw [hl 2 (by decide)] at h
          rw [hl 4 (by decide)]
          obtain ⟨b', cs', k1', k2', k3', k4', k5'⟩ := h2 h
          have hbb : b' ≠ b := by
            rintro rfl
            exact h4 h (hdp 3 (by kernel_rfl)) (by rw [k1, k1'])
          exact ⟨b', cs', k1', k2', k3', ((put8_grown W b _ _ _ _ _ _ _ _).block b' (obj_lt k4') (by simp [hbb])).trans k4', k5'⟩)
        · intro h
          exact ⟨b, #[.string c0, .int .i64 c1, .int .i64 c2, .int .i64 c3, .int .i64 c4, .int .i64 c5, .int .i64 c6, .int .i64 c7], k1, k2, rfl, put8_at k4 k3 _ _ _ _ _ _ _ _, fun _ => rfl⟩
        · intro h h'; rw [hl 2 (by decide)] at h; rw [hl 3 (by decide)] at h'; exact h4 h h'
        · intro h; rw [hl 4 (by decide)] at h; rw [hl 2 (by decide)]; exact h5 h
        · intro h; rw [hl 3 (by decide)]; exact hdp 3 (by kernel_rfl)
    · rintro L f W ⟨hB, h0, h1, h2, h3, h4, h5, h6⟩ hall
      have hal : ∀ j, j < 6 → L.getD j false = true := fun j hj => hall j hj
      obtain ⟨bY, cs, k1, k2, k3, k4, k5⟩ := h2 (hal 2 (by decide))
      obtain ⟨bZ, cs', k1', k2', k3', k4', k5'⟩ := h3 (hal 3 (by decide))
      have hne := h4 (hal 2 (by decide)) (hal 3 (by decide))
      rw [k1, k1'] at hne
      rw [k5 (hal 4 (by decide))] at k4
      rw [k5' (hal 5 (by decide))] at k4'
      simp only [putsL, List.foldl_cons, List.foldl_nil, Act.put, List.setIfInBounds_toArray, List.set_cons_zero, List.set_cons_succ]
      go_wp2
      go_meet
      exact ⟨bY, bZ, (by first | exact k1 | rfl), (by first | exact k1' | rfl), k2, k2', fun e => hne (by rw [e]), Lib.hid hB, Lib.hid k4, Lib.hid k4'⟩
  case rest =>
    obtain ⟨bY, bZ, rfl, rfl, hy, hz, hne, HBJ, HY, HZ⟩ := hcut
    have hwr2 := HRR.out
    have hzn2 := HZN.out
    have hyx := HY.out
    have y0 := obj_cell hyx 0
    have y1 := obj_cell hyx 1
    have y2 := obj_cell hyx 2
    have y3 := obj_cell hyx 3
    have y4 := obj_cell hyx 4
    have y5 := obj_cell hyx 5
    have y6 := obj_cell hyx 6
    have y7 := obj_cell hyx 7
    simp at y0 y1 y2 y3 y4 y5 y6 y7
    have fy0 := obj_free hyx 0
    have fy1 := obj_free hyx 1
    have fy2 := obj_free hyx 2
    have fy3 := obj_free hyx 3
    have fy4 := obj_free hyx 4
    have fy5 := obj_free hyx 5
    have fy6 := obj_free hyx 6
    have fy7 := obj_free hyx 7
    clear hyx
    have hzx := HZ.out
    have z0 := obj_cell hzx 0
    have z1 := obj_cell hzx 1
    have z2 := obj_cell hzx 2
    have z3 := obj_cell hzx 3
    have z4 := obj_cell hzx 4
    have z5 := obj_cell hzx 5
    have z6 := obj_cell hzx 6
    have z7 := obj_cell hzx 7
    simp at z0 z1 z2 z3 z4 z5 z6 z7
    have fz0 := obj_free hzx 0
    have fz1 := obj_free hzx 1
    have fz2 := obj_free hzx 2
    have fz3 := obj_free hzx 3
    have fz4 := obj_free hzx 4
    have fz5 := obj_free hzx 5
    have fz6 := obj_free hzx 6
    have fz7 := obj_free hzx 7
    clear hzx
    go_upto_region 6 with fail
    have hr5e : a % 5 = r := by rw [hwr2, Int.tmod_eq_emod_of_nonneg ha]
    have hwz := hwn64
    rw [hr5e, hwz, ← hzn2]
    obtain ⟨wx, hwx⟩ : ∃ W, W = (wc.setCell ⟨bY, 2, none⟩ (.int .i64 yb)).setCell ⟨bZ, 3, none⟩ (.int .i64 zn) := ⟨_, rfl⟩
    have HBx : Hid (Below w3.heap.size w3 wx) := Lib.hid (by rw [hwx]; exact (HBJ.out.setCell (by exact hy) _).setCell (by exact hz) _)
    have HYx : Hid (wx.heap[bY]? = some (.cells #[.string c0, .int .i64 c1, .int .i64 yb, .int .i64 c3, .int .i64 c4, .int .i64 c5, .int .i64 c6, .int .i64 c7] 27 (0, 0))) := Lib.hid (by
      rw [hwx]
      have h1 := obj_set HY.out 2 (.int .i64 yb)
      simp only [List.setIfInBounds_toArray, List.set_cons_zero, List.set_cons_succ] at h1
      rw [(setCell_grown (A := wc.setCell ⟨bY, 2, none⟩ (.int .i64 yb)) (b := bZ) 3 (.int .i64 zn)).block bY (obj_lt h1) (by simp [hne])]
      exact h1)
    have HZx : Hid (wx.heap[bZ]? = some (.cells #[.string c0, .int .i64 c1, .int .i64 c2, .int .i64 zn, .int .i64 c4, .int .i64 c5, .int .i64 c6, .int .i64 c7] 27 (0, 0))) := Lib.hid (by
      rw [hwx]
      have h0 : (wc.setCell ⟨bY, 2, none⟩ (.int .i64 yb)).heap[bZ]? = some (.cells #[.string c0, .int .i64 c1, .int .i64 c2, .int .i64 c3, .int .i64 c4, .int .i64 c5, .int .i64 c6, .int .i64 c7] 27 (0, 0)) := by
        rw [(setCell_grown (A := wc) (b := bY) 2 (.int .i64 yb)).block bZ (obj_lt HZ.out) (by simp [Ne.symm hne])]
        exact HZ.out
      have h1 := obj_set h0 3 (.int .i64 zn)
      simp only [List.setIfInBounds_toArray, List.set_cons_zero, List.set_cons_succ] at h1
      exact h1)
    rw [← hwx]
    have HBW := Lib.hid (HB3.out.trans (HBx.out.mono HB3.out.size))
    clear hwx hr5e hwz hwn64 hwr2 hzn2 hwa hwr hwb hwn hr0 hr5 ha y0 y1 y2 y3 y4 y5 y6 y7 fy0 fy1 fy2 fy3 fy4 fy5 fy6 fy7 z0 z1 z2 z3 z4 z5 z6 z7 fz0 fz1 fz2 fz3 fz4 fz5 fz6 fz7
    obtain ⟨J, hJ⟩ : ∃ J, J = fun W : World => Below wx.heap.size wx W := ⟨_, rfl⟩
    have HJO : Hid (∀ W, J W → Below wx.heap.size wx W) := Lib.hid fun W hW => by rw [hJ] at hW; exact hW
    have HJI : Hid (∀ W, Below wx.heap.size wx W → J W) := Lib.hid fun W hW => by rw [hJ]; exact hW
    have HJD : Hid (∀ W, J W → J W.drew) := Lib.hid fun W hW => HJI.out _ ((HJO.out W hW).drew)
    have HJ0 : Hid (J wx) := Lib.hid (HJI.out _ (Below.refl _ _))
    have HJW : Hid (∀ W, J W → Below w.heap.size w W) := Lib.hid fun W hW => HBW.out.trans ((HJO.out W hW).mono HBW.out.size)
    have HCX2 : Hid (∀ W, J W → ∀ i, W.cell? ⟨bX, i, none⟩ = #[.string c0, .int .i64 c1, .int .i64 c2, .int .i64 c3, .int .i64 c4, .int .i64 c5, .int .i64 c6, .int .i64 c7][i]?) := Lib.hid fun W hW i => obj_cell (obj_below (obj_below HX3.out HBx.out) (HJO.out W hW)) i
    have HCY : Hid (∀ W, J W → ∀ i, W.cell? ⟨bY, i, none⟩ = #[.string c0, .int .i64 c1, .int .i64 yb, .int .i64 c3, .int .i64 c4, .int .i64 c5, .int .i64 c6, .int .i64 c7][i]?) := Lib.hid fun W hW i => obj_cell (obj_below HYx.out (HJO.out W hW)) i
    have HCZ : Hid (∀ W, J W → ∀ i, W.cell? ⟨bZ, i, none⟩ = #[.string c0, .int .i64 c1, .int .i64 c2, .int .i64 zn, .int .i64 c4, .int .i64 c5, .int .i64 c6, .int .i64 c7][i]?) := Lib.hid fun W hW i => obj_cell (obj_below HZx.out (HJO.out W hW)) i
    have HKX : Hid (∀ W, J W → Calls Tryd.prog 7 #[.agg #[.string c0, .int .i64 c1, .int .i64 c2, .int .i64 c3, .int .i64 c4, .int .i64 c5, .int .i64 c6, .int .i64 c7]] W fun e w' => e = .returned (.int .i64 x) ∧ J w') := Lib.hid fun W hW => (HAX.out W (HJW.out W hW)).mono fun e w' ⟨h1, h2⟩ => ⟨h1, HJI.out _ ((HJO.out W hW).trans (h2.mono (HJO.out W hW).size))⟩
    have HKY : Hid (∀ W, J W → Calls Tryd.prog 7 #[.agg #[.string c0, .int .i64 c1, .int .i64 yb, .int .i64 c3, .int .i64 c4, .int .i64 c5, .int .i64 c6, .int .i64 c7]] W fun e w' => e = .returned (.int .i64 y) ∧ J w') := Lib.hid fun W hW => (HAY.out W (HJW.out W hW)).mono fun e w' ⟨h1, h2⟩ => ⟨h1, HJI.out _ ((HJO.out W hW).trans (h2.mono (HJO.out W hW).size))⟩
    have HKZ : Hid (∀ W, J W → Calls Tryd.prog 7 #[.agg #[.string c0, .int .i64 c1, .int .i64 c2, .int .i64 zn, .int .i64 c4, .int .i64 c5, .int .i64 c6, .int .i64 c7]] W fun e w' => e = .returned (.int .i64 z) ∧ J w') := Lib.hid fun W hW => (HAZ.out W (HJW.out W hW)).mono fun e w' ⟨h1, h2⟩ => ⟨h1, HJI.out _ ((HJO.out W hW).trans (h2.mono (HJO.out W hW).size))⟩
    have HKS : Hid (∀ W, J W → Calls Tryd.prog 8 #[] W fun e w' => e = .returned (.bool true) ∧ J w') := Lib.hid fun W hW => (sane28_true W (HLAY.out W (HJW.out W hW))).mono fun e w' ⟨h1, h2⟩ => ⟨h1, HJI.out _ ((HJO.out W hW).trans (h2.mono (HJO.out W hW).size))⟩
    have egA := enters_of Tryd.func7 (by kernel_rfl) rfl
    have egS := enters_of Tryd.func8 (by kernel_rfl) rfl
    have hxy : x ≤ y := e1
    have hxz : x ≤ z := e2
    have hxb : x ≤ c2 := e3
    clear hJ HJI e1 e2 e3 HAX HAY HAZ HBx HYx HZx HBJ HY HZ HX3
    go_cut [4] (fun bv wx => bv = .bool true ∧ Hid (J wx))
    case first =>
      refine wp_region_props [31, 32, 33, 34, 35, 36, 37, 38, 39, 40, 41, 42, 43, 44, 45, 46, 47, 48, 49, 50, 51, 52, 4] (slotS [31, 32, 33, 34, 35, 36, 37, 38, 39, 40, 41, 42, 43, 44, 45, 46, 47, 48, 49, 50, 51, 52, 4]) (readsS [31, 32, 33, 34, 35, 36, 37, 38, 39, 40, 41, 42, 43, 44, 45, 46, 47, 48, 49, 50, 51, 52, 4]) (RTs [31, 32, 33, 34, 35, 36, 37, 38, 39, 40, 41, 42, 43, 44, 45, 46, 47, 48, 49, 50, 51, 52, 4] [.agg #[.string c0, .int .i64 c1, .int .i64 yb, .int .i64 c3, .int .i64 c4, .int .i64 c5, .int .i64 c6, .int .i64 c7], .int .i64 y, .agg #[.string c0, .int .i64 c1, .int .i64 c2, .int .i64 c3, .int .i64 c4, .int .i64 c5, .int .i64 c6, .int .i64 c7], .int .i64 x, .bool true, .bool true, .agg #[.string c0, .int .i64 c1, .int .i64 c2, .int .i64 zn, .int .i64 c4, .int .i64 c5, .int .i64 c6, .int .i64 c7], .int .i64 z, .agg #[.string c0, .int .i64 c1, .int .i64 c2, .int .i64 c3, .int .i64 c4, .int .i64 c5, .int .i64 c6, .int .i64 c7], .int .i64 x, .bool true, .bool true, .bool true, .agg #[.string c0, .int .i64 c1, .int .i64 c2, .int .i64 c3, .int .i64 c4, .int .i64 c5, .int .i64 c6, .int .i64 c7], .int .i64 x, .pointer (some ⟨bX, 2, none⟩), .int .i64 c2, .bool true, .bool true, .bool true, .bool true, .bool true, .bool true]) J (by kernel_rfl) (by kernel_rfl) (by kernel_rfl) (HJD.out _ HJ0.out) (fun j f q v W hq h => RTs.upd hq h) ?_ ?_
      case refine_1 =>
        intro iq hiq f W hIW hdep
        have hiq' : iq < 23 := hiq
        generalize ha1 : putsL _ [31, 32, 33, 34, 35, 36, 37, 38, 39, 40, 41, 42, 43, 44, 45, 46, 47, 48, 49, 50, 51, 52, 4] f = a1
        match iq, hiq', hdep with
        | 0, _, hdep =>
          have E7 : a1.tmps[7]?.getD undef = .pointer (some ⟨bY, 0, none⟩) := by rw [← ha1]; exact (putsL_out2 _ _ _ _ (by decide)).trans rfl
          have v0 : W.cell? ⟨bY, 0, none⟩ = some (.string c0) := by simpa using HCY.out W hIW 0
          have v1 : W.cell? ⟨bY, 1, none⟩ = some (.int .i64 c1) := by simpa using HCY.out W hIW 1
          have v2 : W.cell? ⟨bY, 2, none⟩ = some (.int .i64 yb) := by simpa using HCY.out W hIW 2
          have v3 : W.cell? ⟨bY, 3, none⟩ = some (.int .i64 c3) := by simpa using HCY.out W hIW 3
          have v4 : W.cell? ⟨bY, 4, none⟩ = some (.int .i64 c4) := by simpa using HCY.out W hIW 4
          have v5 : W.cell? ⟨bY, 5, none⟩ = some (.int .i64 c5) := by simpa using HCY.out W hIW 5
          have v6 : W.cell? ⟨bY, 6, none⟩ = some (.int .i64 c6) := by simpa using HCY.out W hIW 6
          have v7 : W.cell? ⟨bY, 7, none⟩ = some (.int .i64 c7) := by simpa using HCY.out W hIW 7
          exact wpOp_val rfl rfl (v := .agg #[.string c0, .int .i64 c1, .int .i64 yb, .int .i64 c3, .int .i64 c4, .int .i64 c5, .int .i64 c6, .int .i64 c7]) (w' := W) (by simp [execOp, go_sem, E7, v0, v1, v2, v3, v4, v5, v6, v7]) ⟨hIW, fun _ h => h, Or.inl ⟨_, by decide, rfl, updF_same _ _ _⟩⟩
        | 1, _, hdep =>
          have E31 : a1.tmps[31]?.getD undef = .agg #[.string c0, .int .i64 c1, .int .i64 yb, .int .i64 c3, .int .i64 c4, .int .i64 c5, .int .i64 c6, .int .i64 c7] := by rw [← ha1]; exact (putsL_in2 _ _ _ _ (by decide) (show 31 < 53 from by decide)).trans (hdep 0 (by kernel_rfl))
          refine wpOp_call rfl rfl (n := 7) (vs := #[.agg #[.string c0, .int .i64 c1, .int .i64 yb, .int .i64 c3, .int .i64 c4, .int .i64 c5, .int .i64 c6, .int .i64 c7]]) (by have := egA #[.agg #[.string c0, .int .i64 c1, .int .i64 yb, .int .i64 c3, .int .i64 c4, .int .i64 c5, .int .i64 c6, .int .i64 c7]] W; simp [execOp, E31, resolve, invoke, go_sem] <;> exact this) ((HKY.out W hIW).mono fun e w' h => (⟨_, h.1, rfl, h.2⟩ : ∃ v, e = .returned v ∧ (v = .int .i64 y ∧ J w'))) ?_
          rintro v w' ⟨rfl, hI'⟩
          exact ⟨hI', fun _ h => h, Or.inl ⟨_, by decide, rfl, updF_same _ _ _⟩⟩
        | 2, _, hdep =>
          have E6 : a1.tmps[6]?.getD undef = .pointer (some ⟨bX, 0, none⟩) := by rw [← ha1]; exact (putsL_out2 _ _ _ _ (by decide)).trans rfl
          have v0 : W.cell? ⟨bX, 0, none⟩ = some (.string c0) := by simpa using HCX2.out W hIW 0
          have v1 : W.cell? ⟨bX, 1, none⟩ = some (.int .i64 c1) := by simpa using HCX2.out W hIW 1
          have v2 : W.cell? ⟨bX, 2, none⟩ = some (.int .i64 c2) := by simpa using HCX2.out W hIW 2
          have v3 : W.cell? ⟨bX, 3, none⟩ = some (.int .i64 c3) := by simpa using HCX2.out W hIW 3
          have v4 : W.cell? ⟨bX, 4, none⟩ = some (.int .i64 c4) := by simpa using HCX2.out W hIW 4
          have v5 : W.cell? ⟨bX, 5, none⟩ = some (.int .i64 c5) := by simpa using HCX2.out W hIW 5
          have v6 : W.cell? ⟨bX, 6, none⟩ = some (.int .i64 c6) := by simpa using HCX2.out W hIW 6
          have v7 : W.cell? ⟨bX, 7, none⟩ = some (.int .i64 c7) := by simpa using HCX2.out W hIW 7
          exact wpOp_val rfl rfl (v := .agg #[.string c0, .int .i64 c1, .int .i64 c2, .int .i64 c3, .int .i64 c4, .int .i64 c5, .int .i64 c6, .int .i64 c7]) (w' := W) (by simp [execOp, go_sem, E6, v0, v1, v2, v3, v4, v5, v6, v7]) ⟨hIW, fun _ h => h, Or.inl ⟨_, by decide, rfl, updF_same _ _ _⟩⟩
        | 3, _, hdep =>
          have E33 : a1.tmps[33]?.getD undef = .agg #[.string c0, .int .i64 c1, .int .i64 c2, .int .i64 c3, .int .i64 c4, .int .i64 c5, .int .i64 c6, .int .i64 c7] := by rw [← ha1]; exact (putsL_in2 _ _ _ _ (by decide) (show 33 < 53 from by decide)).trans (hdep 2 (by kernel_rfl))
          refine wpOp_call rfl rfl (n := 7) (vs := #[.agg #[.string c0, .int .i64 c1, .int .i64 c2, .int .i64 c3, .int .i64 c4, .int .i64 c5, .int .i64 c6, .int .i64 c7]]) (by have := egA #[.agg #[.string c0, .int .i64 c1, .int .i64 c2, .int .i64 c3, .int .i64 c4, .int .i64 c5, .int .i64 c6, .int .i64 c7]] W; simp [execOp, E33, resolve, invoke, go_sem] <;> exact this) ((HKX.out W hIW).mono fun e w' h => (⟨_, h.1, rfl, h.2⟩ : ∃ v, e = .returned v ∧ (v = .int .i64 x ∧ J w'))) ?_
          rintro v w' ⟨rfl, hI'⟩
          exact ⟨hI', fun _ h => h, Or.inl ⟨_, by decide, rfl, updF_same _ _ _⟩⟩
        | 4, _, hdep =>
          have E32 : a1.tmps[32]?.getD undef = .int .i64 y := by rw [← ha1]; exact (putsL_in2 _ _ _ _ (by decide) (show 32 < 53 from by decide)).trans (hdep 1 (by kernel_rfl))
          have E34 : a1.tmps[34]?.getD undef = .int .i64 x := by rw [← ha1]; exact (putsL_in2 _ _ _ _ (by decide) (show 34 < 53 from by decide)).trans (hdep 3 (by kernel_rfl))
          exact wpOp_val rfl rfl (v := .bool true) (w' := W) (by simp [execOp, go_sem, E32, E34, hxy]) ⟨hIW, fun _ h => h, Or.inl ⟨_, by decide, rfl, updF_same _ _ _⟩⟩
        | 5, _, hdep =>
          have E35 : a1.tmps[35]?.getD undef = .bool true := by rw [← ha1]; exact (putsL_in2 _ _ _ _ (by decide) (show 35 < 53 from by decide)).trans (hdep 4 (by kernel_rfl))
          exact wpOp_val rfl rfl (v := .bool true) (w' := W) (by simp [execOp, go_sem, E35]) ⟨hIW, fun _ h => h, Or.inl ⟨_, by decide, rfl, updF_same _ _ _⟩⟩
        | 6, _, hdep =>
          have G5 : a1.tmps[36]? = some (.bool true) := by rw [← ha1]; exact (putsL_some _ _ _ _ (by decide) (show 36 < 53 from by decide)).trans (congrArg some (hdep 5 (by kernel_rfl)))
          have E8 : a1.tmps[8]?.getD undef = .pointer (some ⟨bZ, 0, none⟩) := by rw [← ha1]; exact (putsL_out2 _ _ _ _ (by decide)).trans rfl
          have v0 : W.cell? ⟨bZ, 0, none⟩ = some (.string c0) := by simpa using HCZ.out W hIW 0
          have v1 : W.cell? ⟨bZ, 1, none⟩ = some (.int .i64 c1) := by simpa using HCZ.out W hIW 1
          have v2 : W.cell? ⟨bZ, 2, none⟩ = some (.int .i64 c2) := by simpa using HCZ.out W hIW 2
          have v3 : W.cell? ⟨bZ, 3, none⟩ = some (.int .i64 zn) := by simpa using HCZ.out W hIW 3
          have v4 : W.cell? ⟨bZ, 4, none⟩ = some (.int .i64 c4) := by simpa using HCZ.out W hIW 4
          have v5 : W.cell? ⟨bZ, 5, none⟩ = some (.int .i64 c5) := by simpa using HCZ.out W hIW 5
          have v6 : W.cell? ⟨bZ, 6, none⟩ = some (.int .i64 c6) := by simpa using HCZ.out W hIW 6
          have v7 : W.cell? ⟨bZ, 7, none⟩ = some (.int .i64 c7) := by simpa using HCZ.out W hIW 7
          exact wpOp_valG rfl rfl (yielded_of rfl G5) (v := .agg #[.string c0, .int .i64 c1, .int .i64 c2, .int .i64 zn, .int .i64 c4, .int .i64 c5, .int .i64 c6, .int .i64 c7]) (w' := W) (by simp [execOp, go_sem, E8, v0, v1, v2, v3, v4, v5, v6, v7]) ⟨hIW, fun _ h => h, Or.inl ⟨_, by decide, rfl, updF_same _ _ _⟩⟩
        | 7, _, hdep =>
          have G5 : a1.tmps[36]? = some (.bool true) := by rw [← ha1]; exact (putsL_some _ _ _ _ (by decide) (show 36 < 53 from by decide)).trans (congrArg some (hdep 5 (by kernel_rfl)))
          have E37 : a1.tmps[37]?.getD undef = .agg #[.string c0, .int .i64 c1, .int .i64 c2, .int .i64 zn, .int .i64 c4, .int .i64 c5, .int .i64 c6, .int .i64 c7] := by rw [← ha1]; exact (putsL_in2 _ _ _ _ (by decide) (show 37 < 53 from by decide)).trans (hdep 6 (by kernel_rfl))
          refine wpOp_callG rfl rfl (yielded_of rfl G5) (n := 7) (vs := #[.agg #[.string c0, .int .i64 c1, .int .i64 c2, .int .i64 zn, .int .i64 c4, .int .i64 c5, .int .i64 c6, .int .i64 c7]]) (by have := egA #[.agg #[.string c0, .int .i64 c1, .int .i64 c2, .int .i64 zn, .int .i64 c4, .int .i64 c5, .int .i64 c6, .int .i64 c7]] W; simp [execOp, E37, resolve, invoke, go_sem] <;> exact this) ((HKZ.out W hIW).mono fun e w' h => (⟨_, h.1, rfl, h.2⟩ : ∃ v, e = .returned v ∧ (v = .int .i64 z ∧ J w'))) ?_
          rintro v w' ⟨rfl, hI'⟩
          exact ⟨hI', fun _ h => h, Or.inl ⟨_, by decide, rfl, updF_same _ _ _⟩⟩
        | 8, _, hdep =>
          have G5 : a1.tmps[36]? = some (.bool true) := by rw [← ha1]; exact (putsL_some _ _ _ _ (by decide) (show 36 < 53 from by decide)).trans (congrArg some (hdep 5 (by kernel_rfl)))
          have E6 : a1.tmps[6]?.getD undef = .pointer (some ⟨bX, 0, none⟩) := by rw [← ha1]; exact (putsL_out2 _ _ _ _ (by decide)).trans rfl
          have v0 : W.cell? ⟨bX, 0, none⟩ = some (.string c0) := by simpa using HCX2.out W hIW 0
          have v1 : W.cell? ⟨bX, 1, none⟩ = some (.int .i64 c1) := by simpa using HCX2.out W hIW 1
          have v2 : W.cell? ⟨bX, 2, none⟩ = some (.int .i64 c2) := by simpa using HCX2.out W hIW 2
          have v3 : W.cell? ⟨bX, 3, none⟩ = some (.int .i64 c3) := by simpa using HCX2.out W hIW 3
          have v4 : W.cell? ⟨bX, 4, none⟩ = some (.int .i64 c4) := by simpa using HCX2.out W hIW 4
          have v5 : W.cell? ⟨bX, 5, none⟩ = some (.int .i64 c5) := by simpa using HCX2.out W hIW 5
          have v6 : W.cell? ⟨bX, 6, none⟩ = some (.int .i64 c6) := by simpa using HCX2.out W hIW 6
          have v7 : W.cell? ⟨bX, 7, none⟩ = some (.int .i64 c7) := by simpa using HCX2.out W hIW 7
          exact wpOp_valG rfl rfl (yielded_of rfl G5) (v := .agg #[.string c0, .int .i64 c1, .int .i64 c2, .int .i64 c3, .int .i64 c4, .int .i64 c5, .int .i64 c6, .int .i64 c7]) (w' := W) (by simp [execOp, go_sem, E6, v0, v1, v2, v3, v4, v5, v6, v7]) ⟨hIW, fun _ h => h, Or.inl ⟨_, by decide, rfl, updF_same _ _ _⟩⟩
        | 9, _, hdep =>
          have G5 : a1.tmps[36]? = some (.bool true) := by rw [← ha1]; exact (putsL_some _ _ _ _ (by decide) (show 36 < 53 from by decide)).trans (congrArg some (hdep 5 (by kernel_rfl)))
          have E39 : a1.tmps[39]?.getD undef = .agg #[.string c0, .int .i64 c1, .int .i64 c2, .int .i64 c3, .int .i64 c4, .int .i64 c5, .int .i64 c6, .int .i64 c7] := by rw [← ha1]; exact (putsL_in2 _ _ _ _ (by decide) (show 39 < 53 from by decide)).trans (hdep 8 (by kernel_rfl))
          refine wpOp_callG rfl rfl (yielded_of rfl G5) (n := 7) (vs := #[.agg #[.string c0, .int .i64 c1, .int .i64 c2, .int .i64 c3, .int .i64 c4, .int .i64 c5, .int .i64 c6, .int .i64 c7]]) (by have := egA #[.agg #[.string c0, .int .i64 c1, .int .i64 c2, .int .i64 c3, .int .i64 c4, .int .i64 c5, .int .i64 c6, .int .i64 c7]] W; simp [execOp, E39, resolve, invoke, go_sem] <;> exact this) ((HKX.out W hIW).mono fun e w' h => (⟨_, h.1, rfl, h.2⟩ : ∃ v, e = .returned v ∧ (v = .int .i64 x ∧ J w'))) ?_
          rintro v w' ⟨rfl, hI'⟩
          exact ⟨hI', fun _ h => h, Or.inl ⟨_, by decide, rfl, updF_same _ _ _⟩⟩
        | 10, _, hdep =>
          have G5 : a1.tmps[36]? = some (.bool true) := by rw [← ha1]; exact (putsL_some _ _ _ _ (by decide) (show 36 < 53 from by decide)).trans (congrArg some (hdep 5 (by kernel_rfl)))
          have E38 : a1.tmps[38]?.getD undef = .int .i64 z := by rw [← ha1]; exact (putsL_in2 _ _ _ _ (by decide) (show 38 < 53 from by decide)).trans (hdep 7 (by kernel_rfl))
          have E40 : a1.tmps[40]?.getD undef = .int .i64 x := by rw [← ha1]; exact (putsL_in2 _ _ _ _ (by decide) (show 40 < 53 from by decide)).trans (hdep 9 (by kernel_rfl))
          exact wpOp_valG rfl rfl (yielded_of rfl G5) (v := .bool true) (w' := W) (by simp [execOp, go_sem, E38, E40, hxz]) ⟨hIW, fun _ h => h, Or.inl ⟨_, by decide, rfl, updF_same _ _ _⟩⟩
        | 11, _, hdep =>
          have E36 : a1.tmps[36]?.getD undef = .bool true := by rw [← ha1]; exact (putsL_in2 _ _ _ _ (by decide) (show 36 < 53 from by decide)).trans (hdep 5 (by kernel_rfl))
          have E41 : a1.tmps[41]?.getD undef = .bool true := by rw [← ha1]; exact (putsL_in2 _ _ _ _ (by decide) (show 41 < 53 from by decide)).trans (hdep 10 (by kernel_rfl))
          exact wpOp_val rfl rfl (v := .bool true) (w' := W) (by simp [execOp, go_sem, E36, E41]) ⟨hIW, fun _ h => h, Or.inl ⟨_, by decide, rfl, updF_same _ _ _⟩⟩
        | 12, _, hdep =>
          have E42 : a1.tmps[42]?.getD undef = .bool true := by rw [← ha1]; exact (putsL_in2 _ _ _ _ (by decide) (show 42 < 53 from by decide)).trans (hdep 11 (by kernel_rfl))
          exact wpOp_val rfl rfl (v := .bool true) (w' := W) (by simp [execOp, go_sem, E42]) ⟨hIW, fun _ h => h, Or.inl ⟨_, by decide, rfl, updF_same _ _ _⟩⟩
        | 13, _, hdep =>
          have G12 : a1.tmps[43]? = some (.bool true) := by rw [← ha1]; exact (putsL_some _ _ _ _ (by decide) (show 43 < 53 from by decide)).trans (congrArg some (hdep 12 (by kernel_rfl)))
          have E6 : a1.tmps[6]?.getD undef = .pointer (some ⟨bX, 0, none⟩) := by rw [← ha1]; exact (putsL_out2 _ _ _ _ (by decide)).trans rfl
          have v0 : W.cell? ⟨bX, 0, none⟩ = some (.string c0) := by simpa using HCX2.out W hIW 0
          have v1 : W.cell? ⟨bX, 1, none⟩ = some (.int .i64 c1) := by simpa using HCX2.out W hIW 1
          have v2 : W.cell? ⟨bX, 2, none⟩ = some (.int .i64 c2) := by simpa using HCX2.out W hIW 2
          have v3 : W.cell? ⟨bX, 3, none⟩ = some (.int .i64 c3) := by simpa using HCX2.out W hIW 3
          have v4 : W.cell? ⟨bX, 4, none⟩ = some (.int .i64 c4) := by simpa using HCX2.out W hIW 4
          have v5 : W.cell? ⟨bX, 5, none⟩ = some (.int .i64 c5) := by simpa using HCX2.out W hIW 5
          have v6 : W.cell? ⟨bX, 6, none⟩ = some (.int .i64 c6) := by simpa using HCX2.out W hIW 6
          have v7 : W.cell? ⟨bX, 7, none⟩ = some (.int .i64 c7) := by simpa using HCX2.out W hIW 7
          exact wpOp_valG rfl rfl (yielded_of rfl G12) (v := .agg #[.string c0, .int .i64 c1, .int .i64 c2, .int .i64 c3, .int .i64 c4, .int .i64 c5, .int .i64 c6, .int .i64 c7]) (w' := W) (by simp [execOp, go_sem, E6, v0, v1, v2, v3, v4, v5, v6, v7]) ⟨hIW, fun _ h => h, Or.inl ⟨_, by decide, rfl, updF_same _ _ _⟩⟩
        | 14, _, hdep =>
          have G12 : a1.tmps[43]? = some (.bool true) := by rw [← ha1]; exact (putsL_some _ _ _ _ (by decide) (show 43 < 53 from by decide)).trans (congrArg some (hdep 12 (by kernel_rfl)))
          have E44 : a1.tmps[44]?.getD undef = .agg #[.string c0, .int .i64 c1, .int .i64 c2, .int .i64 c3, .int .i64 c4, .int .i64 c5, .int .i64 c6, .int .i64 c7] := by rw [← ha1]; exact (putsL_in2 _ _ _ _ (by decide) (show 44 < 53 from by decide)).trans (hdep 13 (by kernel_rfl))
          refine wpOp_callG rfl rfl (yielded_of rfl G12) (n := 7) (vs := #[.agg #[.string c0, .int .i64 c1, .int .i64 c2, .int .i64 c3, .int .i64 c4, .int .i64 c5, .int .i64 c6, .int .i64 c7]]) (by have := egA #[.agg #[.string c0, .int .i64 c1, .int .i64 c2, .int .i64 c3, .int .i64 c4, .int .i64 c5, .int .i64 c6, .int .i64 c7]] W; simp [execOp, E44, resolve, invoke, go_sem] <;> exact this) ((HKX.out W hIW).mono fun e w' h => (⟨_, h.1, rfl, h.2⟩ : ∃ v, e = .returned v ∧ (v = .int .i64 x ∧ J w'))) ?_
          rintro v w' ⟨rfl, hI'⟩
          exact ⟨hI', fun _ h => h, Or.inl ⟨_, by decide, rfl, updF_same _ _ _⟩⟩
        | 15, _, hdep =>
          have G12 : a1.tmps[43]? = some (.bool true) := by rw [← ha1]; exact (putsL_some _ _ _ _ (by decide) (show 43 < 53 from by decide)).trans (congrArg some (hdep 12 (by kernel_rfl)))
          have E6 : a1.tmps[6]?.getD undef = .pointer (some ⟨bX, 0, none⟩) := by rw [← ha1]; exact (putsL_out2 _ _ _ _ (by decide)).trans rfl
          exact wpOp_valG rfl rfl (yielded_of rfl G12) (v := .pointer (some ⟨bX, 2, none⟩)) (w' := W) (by simp [execOp, go_sem, E6]) ⟨hIW, fun _ h => h, Or.inl ⟨_, by decide, rfl, updF_same _ _ _⟩⟩
        | 16, _, hdep =>
          have G12 : a1.tmps[43]? = some (.bool true) := by rw [← ha1]; exact (putsL_some _ _ _ _ (by decide) (show 43 < 53 from by decide)).trans (congrArg some (hdep 12 (by kernel_rfl)))
          have E46 : a1.tmps[46]?.getD undef = .pointer (some ⟨bX, 2, none⟩) := by rw [← ha1]; exact (putsL_in2 _ _ _ _ (by decide) (show 46 < 53 from by decide)).trans (hdep 15 (by kernel_rfl))
          have v2 : W.cell? ⟨bX, 2, none⟩ = some (.int .i64 c2) := by simpa using HCX2.out W hIW 2
          exact wpOp_valG rfl rfl (yielded_of rfl G12) (v := .int .i64 c2) (w' := W) (by simp [execOp, go_sem, E46, v2]) ⟨hIW, fun _ h => h, Or.inl ⟨_, by decide, rfl, updF_same _ _ _⟩⟩
        | 17, _, hdep =>
          have G12 : a1.tmps[43]? = some (.bool true) := by rw [← ha1]; exact (putsL_some _ _ _ _ (by decide) (show 43 < 53 from by decide)).trans (congrArg some (hdep 12 (by kernel_rfl)))
          have E45 : a1.tmps[45]?.getD undef = .int .i64 x := by rw [← ha1]; exact (putsL_in2 _ _ _ _ (by decide) (show 45 < 53 from by decide)).trans (hdep 14 (by kernel_rfl))
          have E47 : a1.tmps[47]?.getD undef = .int .i64 c2 := by rw [← ha1]; exact (putsL_in2 _ _ _ _ (by decide) (show 47 < 53 from by decide)).trans (hdep 16 (by kernel_rfl))
          exact wpOp_valG rfl rfl (yielded_of rfl G12) (v := .bool true) (w' := W) (by simp [execOp, go_sem, E45, E47, hxb]) ⟨hIW, fun _ h => h, Or.inl ⟨_, by decide, rfl, updF_same _ _ _⟩⟩
        | 18, _, hdep =>
          have E43 : a1.tmps[43]?.getD undef = .bool true := by rw [← ha1]; exact (putsL_in2 _ _ _ _ (by decide) (show 43 < 53 from by decide)).trans (hdep 12 (by kernel_rfl))
          have E48 : a1.tmps[48]?.getD undef = .bool true := by rw [← ha1]; exact (putsL_in2 _ _ _ _ (by decide) (show 48 < 53 from by decide)).trans (hdep 17 (by kernel_rfl))
          exact wpOp_val rfl rfl (v := .bool true) (w' := W) (by simp [execOp, go_sem, E43, E48]) ⟨hIW, fun _ h => h, Or.inl ⟨_, by decide, rfl, updF_same _ _ _⟩⟩
        | 19, _, hdep =>
          have E49 : a1.tmps[49]?.getD undef = .bool true := by rw [← ha1]; exact (putsL_in2 _ _ _ _ (by decide) (show 49 < 53 from by decide)).trans (hdep 18 (by kernel_rfl))
          exact wpOp_val rfl rfl (v := .bool true) (w' := W) (by simp [execOp, go_sem, E49]) ⟨hIW, fun _ h => h, Or.inl ⟨_, by decide, rfl, updF_same _ _ _⟩⟩
        | 20, _, hdep =>
          have G19 : a1.tmps[50]? = some (.bool true) := by rw [← ha1]; exact (putsL_some _ _ _ _ (by decide) (show 50 < 53 from by decide)).trans (congrArg some (hdep 19 (by kernel_rfl)))
          refine wpOp_callG rfl rfl (yielded_of rfl G19) (n := 8) (vs := #[]) (by have := egS #[] W; simp [execOp, go_sem, resolve, invoke, go_sem] <;> exact this) ((HKS.out W hIW).mono fun e w' h => (⟨_, h.1, rfl, h.2⟩ : ∃ v, e = .returned v ∧ (v = .bool true ∧ J w'))) ?_
          rintro v w' ⟨rfl, hI'⟩
          exact ⟨hI', fun _ h => h, Or.inl ⟨_, by decide, rfl, updF_same _ _ _⟩⟩
        | 21, _, hdep =>
          have E50 : a1.tmps[50]?.getD undef = .bool true := by rw [← ha1]; exact (putsL_in2 _ _ _ _ (by decide) (show 50 < 53 from by decide)).trans (hdep 19 (by kernel_rfl))
          have E51 : a1.tmps[51]?.getD undef = .bool true := by rw [← ha1]; exact (putsL_in2 _ _ _ _ (by decide) (show 51 < 53 from by decide)).trans (hdep 20 (by kernel_rfl))
          exact wpOp_val rfl rfl (v := .bool true) (w' := W) (by simp [execOp, go_sem, E50, E51]) ⟨hIW, fun _ h => h, Or.inl ⟨_, by decide, rfl, updF_same _ _ _⟩⟩
        | 22, _, hdep =>
          have E52 : a1.tmps[52]?.getD undef = .bool true := by rw [← ha1]; exact (putsL_in2 _ _ _ _ (by decide) (show 52 < 53 from by decide)).trans (hdep 21 (by kernel_rfl))
          exact wpOp_val rfl rfl (v := .bool true) (w' := W) (by simp [execOp, go_sem, E52]) ⟨hIW, fun _ h => h, Or.inl ⟨_, by decide, rfl, updF_same _ _ _⟩⟩
        | iq + 23, h, _ => exact absurd h (by omega)
      case refine_2 =>
        intro f W hIW hR
        have h4 : f 4 = .bool true := hR 22 (show 22 < 23 from by decide)
        simp only [putsL, List.foldl_cons, List.foldl_nil, Act.put, List.setIfInBounds_toArray, List.set_cons_zero, List.set_cons_succ]
        go_wp2
        go_meet
        exact ⟨(by first | exact h4 | rfl), Lib.hid hIW⟩
    case rest =>
      obtain ⟨rfl, HJ10⟩ := hcut
      have HBN := Lib.hid (HJW.out _ HJ10.out)
      go_wp2
      go_ret
      exact ⟨rfl, HBN.out⟩

end Go.Proofs.YtebgfbcojhmdlaaDoor
