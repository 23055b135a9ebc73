/- The contract of the account's reference's until: the balances that the entries up to a day make, in a new row, or the error. -/
import Derived.Test.YtoelidndnajedabMAcD
import Derived.Test.YtoelidndnajedabMG5
set_option linter.unusedSimpArgs false
set_option linter.unusedVariables false
namespace Go.Proofs.Ytoelidndnajedab
open Go.RowKit Go.Lib Go.Proofs

theorem addM_err {cr c : Int} {l : List SubA} {last e : Ent} (h : addM cr l last e = .error c) : c ≠ 0 := by
  unfold addM at h
  split at h
  · split at h
    · injection h with h; omega
    · split at h
      · injection h with h; omega
      · cases h
  · rename_i hn
    injection h with h
    rw [← h]
    exact hn
theorem untilM_err {cr day c : Int} : ∀ {es : List Ent} {l : List SubA} {last : Ent}, untilM cr day es l last = .error c → c ≠ 0
  | [], _, _, h => by cases h
  | e :: es, l, last, h => by
    unfold untilM at h
    split at h
    · cases h
    · split at h
      · rename_i c' hc
        injection h with h
        rw [← h]
        exact addM_err hc
      · exact untilM_err h
theorem bals_range {cr : Int} {l : List SubA} (hcr : amtB cr = true) (h : Bals cr l) : ∀ s ∈ l, -1000000000000 ≤ s.bal ∧ s.bal ≤ 1000000000000000 := fun s hs => by
  have := (inB_true.1 hcr).2
  have h1 := h s hs
  rcases h1.1 with h2 | ⟨_, h2⟩
  · exact ⟨by omega, h1.2⟩
  · exact ⟨by omega, h1.2⟩
theorem addM_number {cr : Int} {l m : List SubA} {last e : Ent} (h : addM cr l last e = .ok m) : e.number = last.number + 1 := (faultE_zero (addM_parts h).1).1
theorem drop_ent {es : List Ent} {k : Nat} (hk : k < es.length) : es.drop k = entAt es k :: es.drop (k + 1) := by
  rw [entAt_get hk]
  exact List.drop_eq_getElem_cons hk

/-- A world within until: the balances so far, the last entry, the account. -/
structure UInv (w : World) (cr : Int) (su en : Value) (lb : Nat) (v : Value) (m : List SubA) (last : Ent) (W : World) : Prop where
  row : W.ownsRow w.heap.size 62 2 v m.length (cellsU m)
  last : W.heap[lb]? = some (.cells last.cells.toArray 86 (0, 0))
  box : W.heap[w.heap.size]? = some (.cells #[.int .i64 cr, su, en] 56 (0, 0))
  old : Below w.heap.size w W
  far : w.heap.size < lb
theorem UInv.later {w : World} {cr : Int} {su en : Value} {lb : Nat} {v : Value} {m : List SubA} {last : Ent} {A B : World} (h : UInv w cr su en lb v m last A) (hb : Below A.heap.size A B) : UInv w cr su en lb v m last B :=
  ⟨ownsRow_below h.row hb, obj_below h.last hb, obj_below h.box hb, h.old.trans (hb.mono h.old.size), h.far⟩

set_option maxRecDepth 100000 in
set_option maxHeartbeats 8000000 in
theorem rauntil_any (a : Acc) (su en : Value) (day : Int) (w : World) (h : SubsAt w su a.subs) (he : EntsAt w en a.ents) (hlen : a.subs.length ≤ 1000) (hlen2 : a.ents.length ≤ 1000000) (hcr : amtB a.credit = true) :
    Calls Try.prog 49 #[.agg #[.int .i64 a.credit, su, en], .int .i64 day] w (AddPost w (untilM a.credit day a.ents (emptyM a.subs) Ent.zero)) := by
  obtain ⟨cr, l, es⟩ := a
  simp only at h he hlen hlen2 hcr ⊢
  have hbx : (w.alloc (.cells #[.int .i64 cr, su, en] 56)).heap[w.heap.size]? = some (.cells #[.int .i64 cr, su, en] 56 (0, 0)) := heap_alloc_new w _
  have HBX := Lib.hid hbx
  have HE := Lib.hid (raempty_any su l (w.alloc (.cells #[.int .i64 cr, su, en] 56)) (h.below (below_alloc w _)) (by omega))
  obtain ⟨r, hr⟩ : ∃ r, r = untilM cr day es (emptyM l) Ent.zero := ⟨_, rfl⟩
  have HR := Lib.hid hr
  have HCR := Lib.hid hcr
  obtain ⟨n, hn⟩ : ∃ n, n = es.length := ⟨_, rfl⟩
  have HN := Lib.hid hn
  have HL : Hid (l.length ≤ 1000) := Lib.hid hlen
  rw [← hr]
  clear hr hbx h hcr hlen
  rcases he.open with ⟨rfl, ao, cap, rfl⟩ | ⟨hpos, b, o, cap, rfl, hcap, hb, hc⟩
  · obtain rfl : r = .ok (emptyM l) := HR.out
    clear hn he HN hlen2
    go_enter Try.func49, Try.ntmps49
    go_wp2_with fail
    refine (HE.out).mono ?_
    rintro e w1 ⟨v, rfl, hown, hb1⟩
    have HB1 : Hid (Below w.heap.size w w1) := Lib.hid ((below_alloc w _).trans (hb1.mono (by simp)))
    have HO1 := Lib.hid (ownsRow_mono hown (base' := w.heap.size) (by simp))
    have hx1 := obj_below HBX.out hb1
    have u2 := obj_cell hx1 2
    simp at u2
    have hww1 : w.heap.size < w1.heap.size := obj_lt hx1
    clear hown hb1 hx1
    go_wp2
    go_loopw [6, 19] (fun u i wr => i = .int .i64 0 ∧ Hid (wr.ownsRow w.heap.size 62 2 u (emptyM l).length (cellsU (emptyM l))) ∧ Hid (Below w.heap.size w wr)) (fun _ _ _ => 0)
    case atStart => exact ⟨rfl, Lib.hid (HO1.out.alloc _), Lib.hid (HB1.out.alloc HB1.out.size _)⟩
    case round =>
      obtain ⟨rfl, HO, HB⟩ := hrel
      go_wp2
      go_ret2
      exact ⟨_, rfl, HO.out, HB.out⟩
  · have HC := Lib.hid hc
    rw [← hn] at hpos hcap hlen2 ⊢
    rw [← hn] at HE HBX
    clear hn hc he
    go_enter Try.func49, Try.ntmps49
    go_wp2_with fail
    refine (HE.out).mono ?_
    rintro e w1 ⟨v, rfl, hown, hb1⟩
    have HB1 : Hid (Below w.heap.size w w1) := Lib.hid ((below_alloc w _).trans (hb1.mono (by simp)))
    have hx1 := obj_below HBX.out hb1
    have HU : Hid (UInv w cr su (.slice (some ⟨b, o, none⟩) n cap) w1.heap.size v (emptyM l) Ent.zero (w1.alloc (.cells #[.int .i64 0, .int .i64 0, .int .i64 0, .int .i64 0, .int .i64 0, .int .i64 0] 86))) := Lib.hid ⟨(ownsRow_mono hown (base' := w.heap.size) (by simp)).alloc _, heap_alloc_new w1 _, obj_below hx1 (below_alloc w1 _), HB1.out.alloc HB1.out.size _, obj_lt hx1⟩
    have u2 := obj_cell hx1 2
    simp at u2
    have hww1 : w.heap.size < w1.heap.size := obj_lt hx1
    clear hown hb1 hx1 HE
    go_wp2
    generalize w1.heap.size = lb at *
    go_loopw [6, 19] (fun u i wr => ∃ (k : Nat) (m : List SubA) (last : Ent), i = .int .i64 k ∧ k ≤ n ∧ Hid (r = untilM cr day (es.drop k) m last) ∧ Hid (UInv w cr su (.slice (some ⟨b, o, none⟩) n cap) lb u m last wr) ∧ Hid (last.number = k) ∧ Hid (m.length = l.length) ∧ Hid (Bals cr m)) (fun _ i _ => n - (RowKit.intOf i).toNat)
    case atStart => exact ⟨0, emptyM l, Ent.zero, rfl, by omega, Lib.hid HR.out, HU, Lib.hid rfl, Lib.hid (emptyM_len l), Lib.hid (emptyM_bals l)⟩
    case round =>
      obtain ⟨k, m, last, rfl, hkn, HG, HI, HNM, HML, HBL⟩ := hrel
      by_cases hlt : k < n
      · have hkl : k < es.length := by rw [← HN.out]; exact hlt
        have hbk := fun j (hj : j < 6) => (HI.out.old.cell (p := ⟨b, o + k * 6 + j, none⟩) hb).trans (HC.out k hkl j hj)
        have hg := HG.out
        rw [drop_ent hkl] at hg
        have HG2 := Lib.hid hg
        generalize entAt es k = x at *
        have hadd : ∀ W, UInv w cr su (.slice (some ⟨b, o, none⟩) n cap) lb u6 m last W → Calls Try.prog 58 #[.int .i64 cr, u6, .agg last.cells.toArray, .agg x.cells.toArray] W (AddPost W (addM cr m last x)) := fun W hW => raadd_any cr u6 m last x W (RowG.owns hW.row) (by have := HML.out; have := HL.out; omega) HCR.out (bals_range HCR.out HBL.out) (by rw [HNM.out]; omega) (by rw [HNM.out]; omega)
        have HADD := Lib.hid hadd
        have HXC := Lib.hid (show ∀ j, j < 6 → (wr.alloc (.cells x.cells.toArray 86)).cell? ⟨wr.heap.size, j, none⟩ = x.cells[j]? from fun j _ => by rw [obj_cell (heap_alloc_new wr _) j]; simp)
        have HI2 := Lib.hid (HI.out.later (below_alloc wr (.cells x.cells.toArray 86)))
        have HXB := Lib.hid (heap_alloc_new wr (.cells x.cells.toArray 86))
        obtain ⟨x0, x1, x2, x3, x4, x5⟩ := x
        obtain ⟨y0, y1, y2, y3, y4, y5⟩ := last
        have c0 := hbk 0 (by omega)
        have c1 := hbk 1 (by omega)
        have c2 := hbk 2 (by omega)
        have c3 := hbk 3 (by omega)
        have c4 := hbk 4 (by omega)
        have c5 := hbk 5 (by omega)
        simp [Ent.cells] at c0 c1 c2 c3 c4 c5
        simp only [Ent.cells] at HADD HI2 HXB
        have hla := HI.out.last
        have hba := HI.out.box
        have v0 := obj_cell hba 0
        have t0 := obj_cell hla 0
        have t1 := obj_cell hla 1
        have t2 := obj_cell hla 2
        have t3 := obj_cell hla 3
        have t4 := obj_cell hla 4
        have t5 := obj_cell hla 5
        simp [Ent.cells] at v0 t0 t1 t2 t3 t4 t5
        have hbw : b < wr.heap.size := Nat.lt_of_lt_of_le hb HI.out.old.size
        have hlbw : lb < wr.heap.size := obj_lt hla
        have hww : w.heap.size < wr.heap.size := obj_lt hba
        have hk0 : (0 : Int) ≤ (k : Int) := by omega
        have hk1 : (k : Int) < (n : Int) := by omega
        clear hbk hg hadd HXC hla hba HG
        by_cases hday : day < x1
        · obtain rfl : r = .ok m := HG2.out.trans (if_pos hday)
          go_wp2
          go_ret2
          exact ⟨_, rfl, HI2.out.row, HI2.out.old⟩
        · have hg3 : r = match addM cr m ⟨y0, y1, y2, y3, y4, y5⟩ ⟨x0, x1, x2, x3, x4, x5⟩ with
            | .error c => .error c
            | .ok l' => untilM cr day (es.drop (k + 1)) l' ⟨x0, x1, x2, x3, x4, x5⟩ := HG2.out.trans (if_neg hday)
          have HG3 := Lib.hid hg3
          clear hg3 HG2
          go_wp2_with fail
          refine (HADD.out _ HI2.out).mono ?_
          cases hq : addM cr m ⟨y0, y1, y2, y3, y4, y5⟩ ⟨x0, x1, x2, x3, x4, x5⟩ with
          | error c =>
            have hc0 := addM_err hq
            obtain rfl : r = .error c := by rw [HG3.out, hq]
            have hc1 : (c == 0) = false := by rw [beq_eq_false_iff_ne]; exact hc0
            have hc2 : (c != 0) = true := by rw [bne, hc1]; rfl
            rintro e w5 ⟨rfl, hb5⟩
            have HB5 := Lib.hid (HI2.out.old.trans (hb5.mono HI2.out.old.size))
            clear hb5 hq hc0
            go_wp2
            go_ret2
            exact ⟨rfl, HB5.out⟩
          | ok m' =>
            rintro e w5 ⟨v5, rfl, hown5, hb5⟩
            have HNX := Lib.hid (addM_number hq)
            have HMX := Lib.hid (len_of_ids (addM_ids hq))
            have HBX5 := Lib.hid (addM_bals hq HBL.out)
            have HG4 : Hid (r = untilM cr day (es.drop (k + 1)) m' ⟨x0, x1, x2, x3, x4, x5⟩) := Lib.hid (by rw [HG3.out, hq])
            have hi5 := HI2.out.later hb5
            have hxe5 := obj_below HXB.out hb5
            have HI5 := Lib.hid hi5
            have HO5 := Lib.hid (ownsRow_mono hown5 (base' := w.heap.size) HI2.out.old.size)
            have HROW : Hid (v5.ownBlock = none ∨ v5.ownBlock ≠ some lb) := Lib.hid (by
              by_cases hv : v5.ownBlock = some lb
              · have := (hown5.lt lb hv).1
                simp at this
                omega
              · exact Or.inr hv)
            have z0 := obj_cell hxe5 0
            have z1 := obj_cell hxe5 1
            have z2 := obj_cell hxe5 2
            have z3 := obj_cell hxe5 3
            have z4 := obj_cell hxe5 4
            have z5 := obj_cell hxe5 5
            simp at z0 z1 z2 z3 z4 z5
            have hne5 : wr.heap.size ≠ lb := by omega
            clear hown5 hb5 hi5 hxe5 hq HG3
            go_upto_region 10 with fail
            go_still_tail 3, (by kernel_rfl)
            change wpList _ _ _ _ _ w5.drew
            obtain ⟨w6, hw6⟩ : ∃ w6, w6 = w5.drew := ⟨_, rfl⟩
            have HI6 : Hid (UInv w cr su (.slice (some ⟨b, o, none⟩) n cap) lb u6 m ⟨y0, y1, y2, y3, y4, y5⟩ w6) := Lib.hid (by rw [hw6]; exact HI5.out.later (Below.refl _ _).drew)
            have HO6 : Hid (w6.ownsRow w.heap.size 62 2 v5 m'.length (cellsU m')) := Lib.hid (by rw [hw6]; exact HO5.out)
            rw [← hw6]
            have hl6 := HI6.out.last
            have s0 := obj_cell hl6 0
            have s1 := obj_cell hl6 1
            have s2 := obj_cell hl6 2
            have s3 := obj_cell hl6 3
            have s4 := obj_cell hl6 4
            have s5 := obj_cell hl6 5
            have f0 := obj_free hl6 0
            have f1 := obj_free hl6 1
            have f2 := obj_free hl6 2
            have f3 := obj_free hl6 3
            have f4 := obj_free hl6 4
            have f5 := obj_free hl6 5
            simp [Ent.cells] at s0 s1 s2 s3 s4 s5
            clear hw6 hl6 HI5 HO5 z0 z1 z2 z3 z4 z5
            go_upto_region 11 with fail
            obtain ⟨W7, hW7⟩ : ∃ W, W = put6 w6 lb (.int .i64 x0) (.int .i64 x1) (.int .i64 x2) (.int .i64 x3) (.int .i64 x4) (.int .i64 x5) := ⟨_, rfl⟩
            have HI7 : Hid (UInv w cr su (.slice (some ⟨b, o, none⟩) n cap) lb v5 m' ⟨x0, x1, x2, x3, x4, x5⟩ W7) := Lib.hid (by
              have hfar := HI6.out.far
              have hgr : w6.grownBy (put6 w6 lb (.int .i64 x0) (.int .i64 x1) (.int .i64 x2) (.int .i64 x3) (.int .i64 x4) (.int .i64 x5)) (some lb) := put6_grown _ _ _ _ _ _ _ _
              rw [hW7]
              exact ⟨HO6.out.kept hgr HROW.out, put6_at HI6.out.last rfl _ _ _ _ _ _, (hgr.block _ (obj_lt HI6.out.box) (by simp; omega)).trans HI6.out.box, put6_below HI6.out.old (by omega) _ _ _ _ _ _, hfar⟩)
            show Code.wp _ _ _ _ (put6 w6 lb (.int .i64 x0) (.int .i64 x1) (.int .i64 x2) (.int .i64 x3) (.int .i64 x4) (.int .i64 x5))
            rw [← hW7]
            clear hW7 s0 s1 s2 s3 s4 s5 f0 f1 f2 f3 f4 f5
            go_wp2
            go_roundw
            case rel => exact ⟨k + 1, m', ⟨x0, x1, x2, x3, x4, x5⟩, by first | rfl | go_num, by omega, HG4, HI7, Lib.hid (by have h1 := HNX.out; have h2 := HNM.out; simp only at h1 h2 ⊢; rw [h1, h2]; simp), Lib.hid (HMX.out.trans HML.out), HBX5⟩
            case measure => simp [RowKit.intOf]; omega
      · obtain rfl : k = n := by omega
        obtain rfl : r = .ok m := HG.out.trans (by rw [HN.out, List.drop_length]; rfl)
        go_wp2
        go_ret2
        exact ⟨_, rfl, HI.out.row, HI.out.old⟩

end Go.Proofs.Ytoelidndnajedab
