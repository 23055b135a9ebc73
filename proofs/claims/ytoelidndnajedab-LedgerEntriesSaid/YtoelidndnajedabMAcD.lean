/- The contract of the account's reference's add: the balances behind one more entry, in a new row, or the error. -/
import Derived.Test.YtoelidndnajedabMAcA
set_option linter.unusedSimpArgs false
set_option linter.unusedVariables false
namespace Go.Proofs.Ytoelidndnajedab
open Go.RowKit Go.Lib Go.Proofs

theorem addM_ways {cr : Int} {l : List SubA} {last e : Ent} (hf : faultE l last e = 0) : addM cr l last e = match takeM cr l e.frm e.amount with
    | none => .error 61
    | some m => match giveM m e.to e.amount with
      | none => .error 61
      | some m2 => .ok m2 := if_pos hf

theorem bals_bump {l : List SubA} {i : Nat} {d : Int} (h : ∀ s ∈ l, -1000000000000 ≤ s.bal ∧ s.bal ≤ 1000000000000000) (hb : -1000000000000 ≤ (subAt l i).bal + d ∧ (subAt l i).bal + d ≤ 1000000000000000) : ∀ s ∈ bump l i d, -1000000000000 ≤ s.bal ∧ s.bal ≤ 1000000000000000 := fun s hs => by
  rcases List.mem_or_eq_of_mem_set hs with hs | rfl
  · exact h s hs
  · exact hb

set_option maxRecDepth 100000 in
set_option maxHeartbeats 8000000 in
theorem raadd_good (cr : Int) (sv : Value) (l : List SubA) (last e : Ent) (w : World) (h : SubsAt w sv l) (hlen : l.length ≤ 1000) (hcr : amtB cr = true) (hbal : ∀ s ∈ l, -1000000000000 ≤ s.bal ∧ s.bal ≤ 1000000000000000) (n0 : -1000000000 ≤ last.number) (n1 : last.number ≤ 1000000000) (hf : faultE l last e = 0) :
    Calls Try.prog 58 #[.int .i64 cr, sv, .agg last.cells.toArray, .agg e.cells.toArray] w (AddPost w (addM cr l last e)) := by
  obtain ⟨i0, hi, hz0, hz1, hz2⟩ := infoU_parts
  have hcr' := inB_true.1 hcr
  have HBAL := Lib.hid hbal
  have HAT := Lib.hid (fun id W (hW : Below w.heap.size w W) => raat_any sv l id W (h.below hW) (by omega))
  obtain ⟨f0, f1, f2, f3, f4, f5, f6, f7⟩ := faultE_zero hf
  have HADD := Lib.hid (addM_ways (cr := cr) hf)
  obtain ⟨r, hr⟩ : ∃ r, r = addM cr l last e := ⟨_, rfl⟩
  rw [← hr] at HADD ⊢
  clear hr hf
  obtain ⟨l0, l1, l2, l3, l4, l5⟩ := last
  obtain ⟨e0, e1, e2, e3, e4, e5⟩ := e
  simp only [Ent.cells] at n0 n1 f0 f1 f2 f3 f4 f5 f6 f7 HADD ⊢
  subst f0
  have hne : 0 < l.length := by
    by_cases hl : l = []
    · subst hl
      rcases f6 with f6 | f6
      · rcases f7 with f7 | f7
        · exact absurd (f6.trans f7.symm) f5
        · cases f7
      · cases f6
    · exact List.length_pos_iff.2 hl
  rcases h.open with ⟨rfl, -⟩ | ⟨-, b, o, cap, rfl, hcap, hb, -⟩
  · simp at hne
  have HNEWS := Lib.hid (h.news hne)
  clear h hcr hbal
  have HD := Lib.hid (fun W => by have := raday_any e1 W; rwa [show dayB' e1 = true from inB_true.2 f2] at this)
  have HV := Lib.hid (fun W => by have := rvValid_any e4 W; rwa [show amtB e4 = true from inB_true.2 ⟨by omega, f3.2⟩] at this)
  have hS1 : (e2 == e3) = false := by rw [beq_eq_false_iff_ne]; exact f5
  have hz1' : (e4 == 0) = false := by rw [beq_eq_false_iff_ne]; omega
  have hB1 : ¬ e1 < l1 := by omega
  have hr0 : ¬ e5 < 0 := by omega
  have hr1 : ¬ 1000000 < e5 := by omega
  have hpos : 1 ≤ e4 := f3.1
  have hmax : e4 ≤ 1000000000000 := f3.2
  have hc0 : 0 ≤ cr := hcr'.1
  have hc1 : cr ≤ 1000000000000 := hcr'.2
  have HW0 := Lib.hid (below2 w (.cells #[.int .i64 l0, .int .i64 l1, .int .i64 l2, .int .i64 l3, .int .i64 l4, .int .i64 l5] 86) (.cells #[.int .i64 (l0 + 1), .int .i64 e1, .int .i64 e2, .int .i64 e3, .int .i64 e4, .int .i64 e5] 86))
  have HX0 := Lib.hid (alloc2_at w (.cells #[.int .i64 l0, .int .i64 l1, .int .i64 l2, .int .i64 l3, .int .i64 l4, .int .i64 l5] 86) (.cells #[.int .i64 (l0 + 1), .int .i64 e1, .int .i64 e2, .int .i64 e3, .int .i64 e4, .int .i64 e5] 86))
  have HF5 := Lib.hid f5
  have HF6 := Lib.hid f6
  have HF7 := Lib.hid f7
  obtain ⟨n, hn⟩ : ∃ n, n = l.length := ⟨_, rfl⟩
  have HN := Lib.hid hn
  obtain ⟨a2, ha2⟩ : ∃ a2, a2 = atI l e2 := ⟨_, rfl⟩
  obtain ⟨a3, ha3⟩ : ∃ a3, a3 = atI l e3 := ⟨_, rfl⟩
  have HA2 : Hid (∀ W, Below w.heap.size w W → Calls Try.prog 70 #[.slice (some ⟨b, o, none⟩) l.length cap, .int .i64 e2] W fun e w' => e = .returned (.int .i64 a2) ∧ Below W.heap.size W w') := Lib.hid fun W hW => by rw [ha2]; exact HAT.out e2 W hW
  have HA3 : Hid (∀ W, Below w.heap.size w W → Calls Try.prog 70 #[.slice (some ⟨b, o, none⟩) l.length cap, .int .i64 e3] W fun e w' => e = .returned (.int .i64 a3) ∧ Below W.heap.size W w') := Lib.hid fun W hW => by rw [ha3]; exact HAT.out e3 W hW
  have HQ2 : Hid ((atS l e2 = none ∧ a2 = -1) ∨ ∃ i, atS l e2 = some i ∧ a2 = ((i : Nat) : Int)) := Lib.hid (by rw [ha2]; exact atI_ways l e2)
  have HQ3 : Hid ((atS l e3 = none ∧ a3 = -1) ∨ ∃ i, atS l e3 = some i ∧ a3 = ((i : Nat) : Int)) := Lib.hid (by rw [ha3]; exact atI_ways l e3)
  rw [← hn] at HA2 HA3 hne hlen hcap ⊢
  clear hn ha2 ha3 HAT f1 f2 f3 f4 f5 f6 f7 hcr'
  go_enter Try.func58, Try.ntmps58
  go_upto_region 7 with (first | (go_at_call 63; refine (HD.out _).mono ?_; rintro e w' ⟨rfl, rfl⟩) | (go_at_call 56; refine (HV.out _).mono ?_; rintro e w' ⟨rfl, rfl⟩))
  go_cut [52] (fun c wx => c = .bool false ∧ Hid (wx.heap[w.heap.size + 1]? = some (.cells #[.int .i64 (l0 + 1), .int .i64 e1, .int .i64 e2, .int .i64 e3, .int .i64 e4, .int .i64 e5] 86 (0, 0))) ∧ Hid (Below w.heap.size w wx))
  case first =>
    by_cases h20 : e2 = 0
    · have h20' : (e2 == 0) = true := by rw [beq_iff_eq]; exact h20
      have h20'' : (e2 != 0) = false := by rw [bne, h20']; rfl
      have h30' : (e3 == 0) = false := by rw [beq_eq_false_iff_ne]; exact fun h => HF5.out (h20.trans h.symm)
      have h30'' : (e3 != 0) = true := by rw [bne, h30']; rfl
      obtain ⟨i, rfl⟩ : ∃ i : Nat, a3 = i := by
        rcases HQ3.out with h | ⟨i, _, h⟩
        · rcases HF7.out with h7 | h7
          · exact absurd (h20.trans h7.symm) HF5.out
          · rw [h.1] at h7; cases h7
        · exact ⟨i, h⟩
      clear h20
      go_wp2_with fail
      refine (HA3.out _ HW0.out).mono ?_
      rintro e w1 ⟨rfl, hb1⟩
      have HB1 := Lib.hid (HW0.out.trans (hb1.mono HW0.out.size))
      have HX1 := Lib.hid (obj_below HX0.out hb1)
      clear hb1
      go_wp2
      go_meet
      exact ⟨rfl, HX1, HB1⟩
    · have h20' : (e2 == 0) = false := by rw [beq_eq_false_iff_ne]; exact h20
      have h20'' : (e2 != 0) = true := by rw [bne, h20']; rfl
      obtain ⟨i, rfl⟩ : ∃ i : Nat, a2 = i := by
        rcases HQ2.out with h | ⟨i, _, h⟩
        · rcases HF6.out with h6 | h6
          · exact absurd h6 h20
          · rw [h.1] at h6; cases h6
        · exact ⟨i, h⟩
      clear h20
      go_wp2_with fail
      refine (HA2.out _ HW0.out).mono ?_
      rintro e w1 ⟨rfl, hb1⟩
      have HB1 := Lib.hid (HW0.out.trans (hb1.mono HW0.out.size))
      have HX1 := Lib.hid (obj_below HX0.out hb1)
      have hx1 := HX1.out
      have u2 := obj_cell hx1 2
      have u3 := obj_cell hx1 3
      simp at u2 u3
      clear hb1 hx1
      by_cases h30 : e3 = 0
      · have h30' : (e3 == 0) = true := by rw [beq_iff_eq]; exact h30
        have h30'' : (e3 != 0) = false := by rw [bne, h30']; rfl
        clear h30
        go_wp2
        go_meet
        exact ⟨rfl, HX1, HB1⟩
      · have h30' : (e3 == 0) = false := by rw [beq_eq_false_iff_ne]; exact h30
        have h30'' : (e3 != 0) = true := by rw [bne, h30']; rfl
        obtain ⟨j, rfl⟩ : ∃ j : Nat, a3 = j := by
          rcases HQ3.out with h | ⟨j, _, h⟩
          · rcases HF7.out with h7 | h7
            · exact absurd h7 h30
            · rw [h.1] at h7; cases h7
          · exact ⟨j, h⟩
        clear h30
        go_wp2_with fail
        refine (HA3.out _ HB1.out).mono ?_
        rintro e w2 ⟨rfl, hb2⟩
        have HB2 := Lib.hid (HB1.out.trans (hb2.mono HB1.out.size))
        have HX2 := Lib.hid (obj_below HX1.out hb2)
        clear hb2
        go_wp2
        go_meet
        exact ⟨rfl, HX2, HB2⟩
  case rest =>
    obtain ⟨rfl, HX3, HB3⟩ := hcut
    clear HA2 HA3 HQ2 HQ3 HF5 HF6 HF7 HX0 HW0 hS1
    have hsz3 := HB3.out.size
    have HB3S : Hid (w.heap.size ≤ wc.heap.size) := Lib.hid hsz3
    go_upto_region 10 with (at_builtin; refine wpList_append_own _ rfl _ _ 53 rfl wc.heap.size 62 i0 (.agg #[.int .i64 0, .int .i64 0]) 2 16 Try.underlying53 hi hz0 hz1 hz2 rfl (by decide) (.slice none 0 0) 0 [] rfl (World.ownsRow_nil _ _ _ _) ⟨b, o, none⟩ n cap (cellsU l) rfl (by rw [cellsU_len, HN.out]) (HNEWS.out _ HB3.out) (cellsU_one l) (by unfold maxLen; omega) (by omega) (Nat.le_refl _) ?_; intro v5 w5 hown5 hgr5 _)
    rw [Nat.zero_add, List.nil_append] at hown5
    obtain ⟨g, cp, rfl, hg0, hgc⟩ := owns_shape hown5 hne
    have HB5 := Lib.hid (HB3.out.grown hgr5 hsz3 fun j e => by cases e)
    have HX5 : Hid (w5.heap[w.heap.size + 1]? = some (.cells #[.int .i64 (l0 + 1), .int .i64 e1, .int .i64 e2, .int .i64 e3, .int .i64 e4, .int .i64 e5] 86 (0, 0))) := Lib.hid ((hgr5.block _ (obj_lt HX3.out) (by simp [Value.ownBlock])).trans HX3.out)
    have HO5 := Lib.hid hown5
    have hgx : w.heap.size + 1 < g := Nat.lt_of_lt_of_le (obj_lt HX3.out) hg0
    have hg1 : g < w5.heap.size := (hown5.lt g rfl).2
    clear hown5 hgr5 hsz3 HNEWS HX3 HB3
    have hx5 := HX5.out
    have u2 := obj_cell hx5 2
    simp at u2
    clear hx5
    have HAT5 := Lib.hid (raat_any (.slice (some ⟨g, 0, none⟩) n cp) l e2 w5 (by unfold SubsAt; rw [← HN.out]; exact RowG.owns HO5.out) (by rw [← HN.out]; omega))
    rcases atI_ways l e2 with ⟨q, qe⟩ | ⟨i, q, qe⟩
    · rw [qe] at HAT5
      have HTK : Hid (takeM cr l e2 e4 = some l) := Lib.hid (by unfold takeM; rw [q])
      clear q qe
      go_wp2_with fail
      refine (HAT5.out).mono ?_
      rintro e w6 ⟨rfl, hb6⟩
      have HB6 := Lib.hid (HB5.out.trans (hb6.mono HB5.out.size))
      have HX6 := Lib.hid (obj_below HX5.out hb6)
      have HO6 := Lib.hid (ownsRow_below HO5.out hb6)
      clear hb6 HAT5 u2 HB5 HX5 HO5
      have HTM := HTK
      have HNM := HN
      have HBM := HBAL
      clear HTK
      go_upto_region 15 with fail
      have hxs := HX6.out
      have u3 := obj_cell hxs 3
      simp at u3
      clear hxs
      have HATS := Lib.hid (raat_any (.slice (some ⟨g, 0, none⟩) n cp) l e3 w6 (by unfold SubsAt; rw [← HNM.out]; exact RowG.owns HO6.out) (by rw [← HNM.out]; omega))
      rcases atI_ways l e3 with ⟨q, qe⟩ | ⟨j, q, qe⟩
      · rw [qe] at HATS
        obtain rfl : r = .ok l := by
          rw [HADD.out, HTM.out]
          simp only
          unfold giveM
          rw [q]
        clear q qe HADD HTM
        go_wp2_with fail
        refine (HATS.out).mono ?_
        rintro e w8 ⟨rfl, hb8⟩
        have HB8 := Lib.hid (HB6.out.trans (hb8.mono HB6.out.size))
        have HO8 := Lib.hid (ownsRow_below HO6.out hb8)
        clear hb8
        go_wp2
        go_ret2
        exact ⟨_, rfl, by rw [← HNM.out]; exact ownsRow_mono HO8.out (HB3S.out), HB8.out⟩
      · rw [qe] at HATS
        have hja := atS_some q
        have hil : j < (l).length := hja.1
        have hjn : j < n := by rw [HNM.out]; exact hja.1
        have hj0 : (0 : Int) ≤ (j : Int) := by omega
        have hj1 : (j : Int) < (n : Int) := by omega
        have HQJ := Lib.hid q
        have hbj := HBM.out _ (List.getElem_mem hja.1)
        rw [← subAt_get hja.1] at hbj
        obtain ⟨c5, c6⟩ := cellsU_get l j hja.1
        clear q qe hja
        go_wp2_with fail
        refine (HATS.out).mono ?_
        rintro e w8 ⟨rfl, hb8⟩
        have HB8 := Lib.hid (HB6.out.trans (hb8.mono HB6.out.size))
        have HX8 := Lib.hid (obj_below HX6.out hb8)
        have HO8 := Lib.hid (ownsRow_below HO6.out hb8)
        have d5 := (HO8.out.cellAt (j * 2) (by omega)).trans c5
        have d6 := (HO8.out.cellAt (j * 2 + 1) (by omega)).trans c6
        have fz := HO8.out.frozenAt (j * 2 + 1)
        have hx8 := HX8.out
        have u4 := obj_cell hx8 4
        simp at u4
        have HGV : Hid (giveM l e3 e4 = if 1000000000000000 < (subAt l j).bal + e4 then none else some (bump l j e4)) := Lib.hid (by unfold giveM; rw [HQJ.out])
        have HBU : Hid ((cellsU l).set (j * 2 + 1) (.int .i64 ((subAt l j).bal + e4)) = cellsU (bump l j e4)) := Lib.hid (by rw [cellsU_set l j _ hil]; rfl)
        have HBA : Hid (subAt (bump l j e4) j = ⟨(subAt l j).id, (subAt l j).bal + e4⟩) := Lib.hid (by rw [bump_at l j e4 j hil, if_pos rfl])
        generalize (subAt l j).bal = bj at *
        generalize (subAt l j).id = ij at *
        clear hb8 HATS u3 hx8 c5 c6
        go_upto_region 17 with fail
        go_still_tail 10, (by kernel_rfl)
        go_upto_region 18 with fail
        obtain ⟨W9, hW9⟩ : ∃ W, W = (w8.setCell ⟨g, j * 2 + 1, none⟩ (.int .i64 (bj + e4))).drew := ⟨_, rfl⟩
        have HO9 : Hid (W9.ownsRow wc.heap.size 62 2 (.slice (some ⟨g, 0, none⟩) n cp) n (cellsU (bump l j e4))) := Lib.hid (by rw [hW9, ← HBU.out]; exact (HO8.out.stored (j * 2 + 1) _).1)
        have HB9 : Hid (Below w.heap.size w W9) := Lib.hid (by rw [hW9]; exact (HB8.out.setCell (by show w.heap.size ≤ g; omega) _).drew)
        have HX9 : Hid (W9.heap[w.heap.size + 1]? = some (.cells #[.int .i64 (l0 + 1), .int .i64 e1, .int .i64 e2, .int .i64 e3, .int .i64 e4, .int .i64 e5] 86 (0, 0))) := Lib.hid (by rw [hW9]; exact (Below.heap_setCell w8 _ _ _ (by show w.heap.size + 1 ≠ g; omega)).trans HX8.out)
        have d7 : W9.cell? ⟨g, j * 2 + 1, none⟩ = some (.int .i64 (bj + e4)) := by
          rw [HO9.out.cellAt (j * 2 + 1) (by omega), (cellsU_get (bump l j e4) j (by rw [bump_len]; exact hil)).2, HBA.out]
        have d8 : W9.cell? ⟨g, j * 2, none⟩ = some (.int .i64 ij) := by
          rw [HO9.out.cellAt (j * 2) (by omega), (cellsU_get (bump l j e4) j (by rw [bump_len]; exact hil)).1, HBA.out]
        rw [← hW9]
        clear hW9 d5 d6 fz u4 HO8 HB8 HX8 HBU HBA
        by_cases hbig : 1000000000000000 < bj + e4
        · obtain rfl : r = .error 61 := by
            rw [HADD.out, HTM.out]
            simp only
            rw [HGV.out, if_pos hbig]
          clear HADD HTM HGV
          go_wp2
          go_ret2
          exact ⟨rfl, HB9.out⟩
        · obtain rfl : r = .ok (bump l j e4) := by
            rw [HADD.out, HTM.out]
            simp only
            rw [HGV.out, if_neg hbig]
          clear HADD HTM HGV
          go_wp2
          go_ret2
          exact ⟨_, rfl, by rw [bump_len, ← HNM.out]; exact ownsRow_mono HO9.out (HB3S.out), HB9.out⟩
    · rw [qe] at HAT5
      have hia := atS_some q
      have hil : i < l.length := hia.1
      have hin : i < n := by rw [HN.out]; exact hia.1
      have hi0 : (0 : Int) ≤ (i : Int) := by omega
      have hi1 : (i : Int) < (n : Int) := by omega
      have HQ := Lib.hid q
      have hbi := HBAL.out _ (List.getElem_mem hia.1)
      rw [← subAt_get hia.1] at hbi
      obtain ⟨c5, c6⟩ := cellsU_get l i hia.1
      clear q qe hia
      go_wp2_with fail
      refine (HAT5.out).mono ?_
      rintro e w6 ⟨rfl, hb6⟩
      have HB6 := Lib.hid (HB5.out.trans (hb6.mono HB5.out.size))
      have HX6 := Lib.hid (obj_below HX5.out hb6)
      have HO6 := Lib.hid (ownsRow_below HO5.out hb6)
      have d5 := (HO6.out.cellAt (i * 2) (by omega)).trans c5
      have d6 := (HO6.out.cellAt (i * 2 + 1) (by omega)).trans c6
      have fz := HO6.out.frozenAt (i * 2 + 1)
      have hx6 := HX6.out
      have u4 := obj_cell hx6 4
      simp at u4
      clear hb6 HAT5 u2 HB5 HX5 HO5 hx6 c5 c6
      have HTK0 : Hid (takeM cr l e2 e4 = if (subAt l i).bal - e4 < 0 ∧ ((subAt l i).id ≠ 1 ∨ (subAt l i).bal - e4 < -cr) then none else some (bump l i (-e4))) := Lib.hid (by unfold takeM; rw [HQ.out])
      have HBU : Hid ((cellsU l).set (i * 2 + 1) (.int .i64 ((subAt l i).bal - e4)) = cellsU (bump l i (-e4))) := Lib.hid (by rw [cellsU_set l i _ (by rw [← HN.out]; exact hin)]; rfl)
      have HBA : Hid (subAt (bump l i (-e4)) i = ⟨(subAt l i).id, (subAt l i).bal + -e4⟩) := Lib.hid (by rw [bump_at l i (-e4) i (by rw [← HN.out]; exact hin), if_pos rfl])
      obtain ⟨bi, hbie⟩ : ∃ bi, bi = (subAt l i).bal := ⟨_, rfl⟩
      have HBI : Hid ((subAt l i).bal = bi) := Lib.hid hbie.symm
      rw [← hbie] at HTK0 HBU HBA hbi d6
      clear hbie
      generalize (subAt l i).id = ii at *
      go_upto_region 12 with fail
      go_still_tail 10, (by kernel_rfl)
      go_upto_region 13 with fail
      obtain ⟨W7, hW7⟩ : ∃ W, W = (w6.setCell ⟨g, i * 2 + 1, none⟩ (.int .i64 (bi - e4))).drew := ⟨_, rfl⟩
      have HO7 : Hid (W7.ownsRow wc.heap.size 62 2 (.slice (some ⟨g, 0, none⟩) n cp) n (cellsU (bump l i (-e4)))) := Lib.hid (by rw [hW7, ← HBU.out]; exact (HO6.out.stored (i * 2 + 1) _).1)
      have HB7 : Hid (Below w.heap.size w W7) := Lib.hid (by rw [hW7]; exact (HB6.out.setCell (by show w.heap.size ≤ g; omega) _).drew)
      have HX7 : Hid (W7.heap[w.heap.size + 1]? = some (.cells #[.int .i64 (l0 + 1), .int .i64 e1, .int .i64 e2, .int .i64 e3, .int .i64 e4, .int .i64 e5] 86 (0, 0))) := Lib.hid (by rw [hW7]; exact (Below.heap_setCell w6 _ _ _ (by show w.heap.size + 1 ≠ g; omega)).trans HX6.out)
      have d7 : W7.cell? ⟨g, i * 2 + 1, none⟩ = some (.int .i64 (bi - e4)) := by
        rw [HO7.out.cellAt (i * 2 + 1) (by omega), (cellsU_get (bump l i (-e4)) i (by rw [bump_len]; exact hil)).2, HBA.out]
        rw [Int.sub_eq_add_neg]
      have d8 : W7.cell? ⟨g, i * 2, none⟩ = some (.int .i64 ii) := by
        rw [HO7.out.cellAt (i * 2) (by omega), (cellsU_get (bump l i (-e4)) i (by rw [bump_len]; exact hil)).1, HBA.out]
      rw [← hW7]
      clear hW7 d5 d6 fz u4 HO6 HB6 HX6 HBU HBA
      have HTK : Hid (takeM cr l e2 e4 = if bi - e4 < 0 ∧ (ii ≠ 1 ∨ bi - e4 < -cr) then none else some (bump l i (-e4))) := HTK0
      have HNM : Hid (n = (bump l i (-e4)).length) := Lib.hid (by rw [bump_len]; exact HN.out)
      clear HTK0
      by_cases hneg : bi - e4 < 0
      · by_cases h1 : ii = 1
        · have h1' : (ii == 1) = true := by rw [beq_iff_eq]; exact h1
          have h1'' : (ii != 1) = false := by rw [bne, h1']; rfl
          by_cases hcr2 : bi - e4 < -cr
          · obtain rfl : r = .error 61 := by rw [HADD.out, HTK.out, if_pos ⟨hneg, Or.inr hcr2⟩]
            clear h1 HADD HTK
            go_wp2
            go_ret2
            exact ⟨rfl, HB7.out⟩
          · have HTM : Hid (takeM cr l e2 e4 = some (bump l i (-e4))) := Lib.hid (HTK.out.trans (if_neg (by rintro ⟨_, h | h⟩; exact h h1; exact hcr2 h)))
            have HBM : Hid (∀ s ∈ bump l i (-e4), -1000000000000 ≤ s.bal ∧ s.bal ≤ 1000000000000000) := Lib.hid (bals_bump HBAL.out (by rw [HBI.out]; omega))
            clear h1 HTK
            go_upto_region 15 with fail
            clear d7 d8 h1' h1'' hneg hcr2
            have hxs := HX7.out
            have u3 := obj_cell hxs 3
            simp at u3
            clear hxs
            have HATS := Lib.hid (raat_any (.slice (some ⟨g, 0, none⟩) n cp) (bump l i (-e4)) e3 W7 (by unfold SubsAt; rw [← HNM.out]; exact RowG.owns HO7.out) (by rw [← HNM.out]; omega))
            rcases atI_ways (bump l i (-e4)) e3 with ⟨q, qe⟩ | ⟨j, q, qe⟩
            · rw [qe] at HATS
              obtain rfl : r = .ok (bump l i (-e4)) := by
                rw [HADD.out, HTM.out]
                simp only
                unfold giveM
                rw [q]
              clear q qe HADD HTM
              go_wp2_with fail
              refine (HATS.out).mono ?_
              rintro e w8 ⟨rfl, hb8⟩
              have HB8 := Lib.hid (HB7.out.trans (hb8.mono HB7.out.size))
              have HO8 := Lib.hid (ownsRow_below HO7.out hb8)
              clear hb8
              go_wp2
              go_ret2
              exact ⟨_, rfl, by rw [← HNM.out]; exact ownsRow_mono HO8.out (HB3S.out), HB8.out⟩
            · rw [qe] at HATS
              have hja := atS_some q
              have hil : j < ((bump l i (-e4))).length := hja.1
              have hjn : j < n := by rw [HNM.out]; exact hja.1
              have hj0 : (0 : Int) ≤ (j : Int) := by omega
              have hj1 : (j : Int) < (n : Int) := by omega
              have HQJ := Lib.hid q
              have hbj := HBM.out _ (List.getElem_mem hja.1)
              rw [← subAt_get hja.1] at hbj
              obtain ⟨c5, c6⟩ := cellsU_get (bump l i (-e4)) j hja.1
              clear q qe hja
              go_wp2_with fail
              refine (HATS.out).mono ?_
              rintro e w8 ⟨rfl, hb8⟩
              have HB8 := Lib.hid (HB7.out.trans (hb8.mono HB7.out.size))
              have HX8 := Lib.hid (obj_below HX7.out hb8)
              have HO8 := Lib.hid (ownsRow_below HO7.out hb8)
              have d5 := (HO8.out.cellAt (j * 2) (by omega)).trans c5
              have d6 := (HO8.out.cellAt (j * 2 + 1) (by omega)).trans c6
              have fz := HO8.out.frozenAt (j * 2 + 1)
              have hx8 := HX8.out
              have u4 := obj_cell hx8 4
              simp at u4
              have HGV : Hid (giveM (bump l i (-e4)) e3 e4 = if 1000000000000000 < (subAt (bump l i (-e4)) j).bal + e4 then none else some (bump (bump l i (-e4)) j e4)) := Lib.hid (by unfold giveM; rw [HQJ.out])
              have HBU : Hid ((cellsU (bump l i (-e4))).set (j * 2 + 1) (.int .i64 ((subAt (bump l i (-e4)) j).bal + e4)) = cellsU (bump (bump l i (-e4)) j e4)) := Lib.hid (by rw [cellsU_set (bump l i (-e4)) j _ hil]; rfl)
              have HBA : Hid (subAt (bump (bump l i (-e4)) j e4) j = ⟨(subAt (bump l i (-e4)) j).id, (subAt (bump l i (-e4)) j).bal + e4⟩) := Lib.hid (by rw [bump_at (bump l i (-e4)) j e4 j hil, if_pos rfl])
              generalize (subAt (bump l i (-e4)) j).bal = bj at *
              generalize (subAt (bump l i (-e4)) j).id = ij at *
              clear hb8 HATS u3 hx8 c5 c6
              go_upto_region 17 with fail
              go_still_tail 10, (by kernel_rfl)
              go_upto_region 18 with fail
              obtain ⟨W9, hW9⟩ : ∃ W, W = (w8.setCell ⟨g, j * 2 + 1, none⟩ (.int .i64 (bj + e4))).drew := ⟨_, rfl⟩
              have HO9 : Hid (W9.ownsRow wc.heap.size 62 2 (.slice (some ⟨g, 0, none⟩) n cp) n (cellsU (bump (bump l i (-e4)) j e4))) := Lib.hid (by rw [hW9, ← HBU.out]; exact (HO8.out.stored (j * 2 + 1) _).1)
              have HB9 : Hid (Below w.heap.size w W9) := Lib.hid (by rw [hW9]; exact (HB8.out.setCell (by show w.heap.size ≤ g; omega) _).drew)
              have HX9 : Hid (W9.heap[w.heap.size + 1]? = some (.cells #[.int .i64 (l0 + 1), .int .i64 e1, .int .i64 e2, .int .i64 e3, .int .i64 e4, .int .i64 e5] 86 (0, 0))) := Lib.hid (by rw [hW9]; exact (Below.heap_setCell w8 _ _ _ (by show w.heap.size + 1 ≠ g; omega)).trans HX8.out)
              have d7 : W9.cell? ⟨g, j * 2 + 1, none⟩ = some (.int .i64 (bj + e4)) := by
                rw [HO9.out.cellAt (j * 2 + 1) (by omega), (cellsU_get (bump (bump l i (-e4)) j e4) j (by rw [bump_len]; exact hil)).2, HBA.out]
              have d8 : W9.cell? ⟨g, j * 2, none⟩ = some (.int .i64 ij) := by
                rw [HO9.out.cellAt (j * 2) (by omega), (cellsU_get (bump (bump l i (-e4)) j e4) j (by rw [bump_len]; exact hil)).1, HBA.out]
              rw [← hW9]
              clear hW9 d5 d6 fz u4 HO8 HB8 HX8 HBU HBA
              by_cases hbig : 1000000000000000 < bj + e4
              · obtain rfl : r = .error 61 := by
                  rw [HADD.out, HTM.out]
                  simp only
                  rw [HGV.out, if_pos hbig]
                clear HADD HTM HGV
                go_wp2
                go_ret2
                exact ⟨rfl, HB9.out⟩
              · obtain rfl : r = .ok (bump (bump l i (-e4)) j e4) := by
                  rw [HADD.out, HTM.out]
                  simp only
                  rw [HGV.out, if_neg hbig]
                clear HADD HTM HGV
                go_wp2
                go_ret2
                exact ⟨_, rfl, by rw [bump_len, ← HNM.out]; exact ownsRow_mono HO9.out (HB3S.out), HB9.out⟩
        · have h1' : (ii == 1) = false := by rw [beq_eq_false_iff_ne]; exact h1
          have h1'' : (ii != 1) = true := by rw [bne, h1']; rfl
          obtain rfl : r = .error 61 := by rw [HADD.out, HTK.out, if_pos ⟨hneg, Or.inl h1⟩]
          clear h1 HADD HTK
          go_wp2
          go_ret2
          exact ⟨rfl, HB7.out⟩
      · have HTM : Hid (takeM cr l e2 e4 = some (bump l i (-e4))) := Lib.hid (HTK.out.trans (if_neg (fun h => hneg h.1)))
        have HBM : Hid (∀ s ∈ bump l i (-e4), -1000000000000 ≤ s.bal ∧ s.bal ≤ 1000000000000000) := Lib.hid (bals_bump HBAL.out (by rw [HBI.out]; omega))
        clear HTK
        go_upto_region 15 with fail
        clear d7 d8 hneg
        have hxs := HX7.out
        have u3 := obj_cell hxs 3
        simp at u3
        clear hxs
        have HATS := Lib.hid (raat_any (.slice (some ⟨g, 0, none⟩) n cp) (bump l i (-e4)) e3 W7 (by unfold SubsAt; rw [← HNM.out]; exact RowG.owns HO7.out) (by rw [← HNM.out]; omega))
        rcases atI_ways (bump l i (-e4)) e3 with ⟨q, qe⟩ | ⟨j, q, qe⟩
        · rw [qe] at HATS
          obtain rfl : r = .ok (bump l i (-e4)) := by
            rw [HADD.out, HTM.out]
            simp only
            unfold giveM
            rw [q]
          clear q qe HADD HTM
          go_wp2_with fail
          refine (HATS.out).mono ?_
          rintro e w8 ⟨rfl, hb8⟩
          have HB8 := Lib.hid (HB7.out.trans (hb8.mono HB7.out.size))
          have HO8 := Lib.hid (ownsRow_below HO7.out hb8)
          clear hb8
          go_wp2
          go_ret2
          exact ⟨_, rfl, by rw [← HNM.out]; exact ownsRow_mono HO8.out (HB3S.out), HB8.out⟩
        · rw [qe] at HATS
          have hja := atS_some q
          have hil : j < ((bump l i (-e4))).length := hja.1
          have hjn : j < n := by rw [HNM.out]; exact hja.1
          have hj0 : (0 : Int) ≤ (j : Int) := by omega
          have hj1 : (j : Int) < (n : Int) := by omega
          have HQJ := Lib.hid q
          have hbj := HBM.out _ (List.getElem_mem hja.1)
          rw [← subAt_get hja.1] at hbj
          obtain ⟨c5, c6⟩ := cellsU_get (bump l i (-e4)) j hja.1
          clear q qe hja
          go_wp2_with fail
          refine (HATS.out).mono ?_
          rintro e w8 ⟨rfl, hb8⟩
          have HB8 := Lib.hid (HB7.out.trans (hb8.mono HB7.out.size))
          have HX8 := Lib.hid (obj_below HX7.out hb8)
          have HO8 := Lib.hid (ownsRow_below HO7.out hb8)
          have d5 := (HO8.out.cellAt (j * 2) (by omega)).trans c5
          have d6 := (HO8.out.cellAt (j * 2 + 1) (by omega)).trans c6
          have fz := HO8.out.frozenAt (j * 2 + 1)
          have hx8 := HX8.out
          have u4 := obj_cell hx8 4
          simp at u4
          have HGV : Hid (giveM (bump l i (-e4)) e3 e4 = if 1000000000000000 < (subAt (bump l i (-e4)) j).bal + e4 then none else some (bump (bump l i (-e4)) j e4)) := Lib.hid (by unfold giveM; rw [HQJ.out])
          have HBU : Hid ((cellsU (bump l i (-e4))).set (j * 2 + 1) (.int .i64 ((subAt (bump l i (-e4)) j).bal + e4)) = cellsU (bump (bump l i (-e4)) j e4)) := Lib.hid (by rw [cellsU_set (bump l i (-e4)) j _ hil]; rfl)
          have HBA : Hid (subAt (bump (bump l i (-e4)) j e4) j = ⟨(subAt (bump l i (-e4)) j).id, (subAt (bump l i (-e4)) j).bal + e4⟩) := Lib.hid (by rw [bump_at (bump l i (-e4)) j e4 j hil, if_pos rfl])
          generalize (subAt (bump l i (-e4)) j).bal = bj at *
          generalize (subAt (bump l i (-e4)) j).id = ij at *
          clear hb8 HATS u3 hx8 c5 c6
          go_upto_region 17 with fail
          go_still_tail 10, (by kernel_rfl)
          go_upto_region 18 with fail
          obtain ⟨W9, hW9⟩ : ∃ W, W = (w8.setCell ⟨g, j * 2 + 1, none⟩ (.int .i64 (bj + e4))).drew := ⟨_, rfl⟩
          have HO9 : Hid (W9.ownsRow wc.heap.size 62 2 (.slice (some ⟨g, 0, none⟩) n cp) n (cellsU (bump (bump l i (-e4)) j e4))) := Lib.hid (by rw [hW9, ← HBU.out]; exact (HO8.out.stored (j * 2 + 1) _).1)
          have HB9 : Hid (Below w.heap.size w W9) := Lib.hid (by rw [hW9]; exact (HB8.out.setCell (by show w.heap.size ≤ g; omega) _).drew)
          have HX9 : Hid (W9.heap[w.heap.size + 1]? = some (.cells #[.int .i64 (l0 + 1), .int .i64 e1, .int .i64 e2, .int .i64 e3, .int .i64 e4, .int .i64 e5] 86 (0, 0))) := Lib.hid (by rw [hW9]; exact (Below.heap_setCell w8 _ _ _ (by show w.heap.size + 1 ≠ g; omega)).trans HX8.out)
          have d7 : W9.cell? ⟨g, j * 2 + 1, none⟩ = some (.int .i64 (bj + e4)) := by
            rw [HO9.out.cellAt (j * 2 + 1) (by omega), (cellsU_get (bump (bump l i (-e4)) j e4) j (by rw [bump_len]; exact hil)).2, HBA.out]
          have d8 : W9.cell? ⟨g, j * 2, none⟩ = some (.int .i64 ij) := by
            rw [HO9.out.cellAt (j * 2) (by omega), (cellsU_get (bump (bump l i (-e4)) j e4) j (by rw [bump_len]; exact hil)).1, HBA.out]
          rw [← hW9]
          clear hW9 d5 d6 fz u4 HO8 HB8 HX8 HBU HBA
          by_cases hbig : 1000000000000000 < bj + e4
          · obtain rfl : r = .error 61 := by
              rw [HADD.out, HTM.out]
              simp only
              rw [HGV.out, if_pos hbig]
            clear HADD HTM HGV
            go_wp2
            go_ret2
            exact ⟨rfl, HB9.out⟩
          · obtain rfl : r = .ok (bump (bump l i (-e4)) j e4) := by
              rw [HADD.out, HTM.out]
              simp only
              rw [HGV.out, if_neg hbig]
            clear HADD HTM HGV
            go_wp2
            go_ret2
            exact ⟨_, rfl, by rw [bump_len, ← HNM.out]; exact ownsRow_mono HO9.out (HB3S.out), HB9.out⟩

theorem raadd_any (cr : Int) (sv : Value) (l : List SubA) (last e : Ent) (w : World) (h : SubsAt w sv l) (hlen : l.length ≤ 1000) (hcr : amtB cr = true) (hbal : ∀ s ∈ l, -1000000000000 ≤ s.bal ∧ s.bal ≤ 1000000000000000) (n0 : -1000000000 ≤ last.number) (n1 : last.number ≤ 1000000000) :
    Calls Try.prog 58 #[.int .i64 cr, sv, .agg last.cells.toArray, .agg e.cells.toArray] w (AddPost w (addM cr l last e)) := by
  by_cases hf : faultE l last e = 0
  · exact raadd_good cr sv l last e w h hlen hcr hbal n0 n1 hf
  · exact raadd_bad cr sv l last e w h hlen hcr hbal n0 n1 hf

end Go.Proofs.Ytoelidndnajedab
