/- The contract of the account's reference's Check. -/
import Derived.Test.YtoelidndnajedabMAcU
import Derived.Test.YtoelidndnajedabMAcP
import Derived.Laws.StructEq
set_option linter.unusedSimpArgs false
set_option linter.unusedVariables false
namespace Go.Proofs.Ytoelidndnajedab
open Go.RowKit Go.Lib Go.Proofs

theorem EntsAt.shape {w : World} {v : Value} {l : List Ent} (h : EntsAt w v l) : ∃ ao cap, v = .slice ao l.length cap ∧ l.length ≤ cap ∧ (0 < l.length → ∃ b o, ao = some ⟨b, o, none⟩ ∧ b < w.heap.size ∧ ∀ i, i < l.length → ∀ j, j < 6 → w.cell? ⟨b, o + i * 6 + j, none⟩ = (entAt l i).cells[j]?) := by
  rcases h.open with ⟨rfl, ao, cap, rfl⟩ | ⟨_, b, o, cap, rfl, hcap, hb, hc⟩
  · exact ⟨ao, cap, rfl, Nat.zero_le _, fun h => by simp at h⟩
  · exact ⟨_, cap, rfl, hcap, fun _ => ⟨b, o, rfl, hb, hc⟩⟩

theorem sub_neq_same (x y : Int) (W : World) : (binOp .neq 62 (.agg #[.int .i64 x, .int .i64 y]) (.agg #[.int .i64 x, .int .i64 y])).run Try.prog W = .ok (.bool false) W := by
  rw [run_neq_struct]
  simp [go_sem]
theorem sub_neq_differ (x y x' y' : Int) (h : ¬ (x = x' ∧ y = y')) (W : World) : (binOp .neq 62 (.agg #[.int .i64 x, .int .i64 y]) (.agg #[.int .i64 x', .int .i64 y'])).run Try.prog W = .ok (.bool true) W := by
  rw [run_neq_struct]
  by_cases h1 : x = x'
  · have h2 : (y == y') = false := by rw [beq_eq_false_iff_ne]; exact fun e => h ⟨h1, e⟩
    subst h1
    simp [go_sem, h2]
  · have h2 : (x == x') = false := by rw [beq_eq_false_iff_ne]; exact h1
    simp [go_sem, h2]

theorem daysM_all {es : List Ent} : daysM es = true ↔ ∀ j, j < es.length → dayB' (entAt es j).day = true := by
  unfold daysM
  rw [List.all_eq_true]
  constructor
  · intro h j hj
    rw [entAt_get hj]
    exact h _ (List.getElem_mem hj)
  · intro h e he
    obtain ⟨j, hj, rfl⟩ := List.getElem_of_mem he
    rw [← entAt_get hj]
    exact h j hj
theorem subs_eq {l m : List SubA} (hl : m.length = l.length) (h : ∀ j, j < l.length → subAt m j = subAt l j) : m = l := by
  apply List.ext_getElem hl
  intro i h1 h2
  have := h i h2
  rwa [subAt_get h1, subAt_get h2] at this

/-- A world within Check: the account in its box. -/
structure KInvC (w : World) (cr : Int) (su en : Value) (W : World) : Prop where
  box : W.heap[w.heap.size]? = some (.cells #[.int .i64 cr, su, en] 56 (0, 0))
  old : Below w.heap.size w W
theorem KInvC.later {w : World} {cr : Int} {su en : Value} {A B : World} (h : KInvC w cr su en A) (hb : Below A.heap.size A B) : KInvC w cr su en B :=
  ⟨obj_below h.box hb, h.old.trans (hb.mono h.old.size)⟩

set_option maxRecDepth 100000 in
set_option maxHeartbeats 8000000 in
theorem raCheck_any (a : Acc) (su en : Value) (w : World) (h : SubsAt w su a.subs) (he : EntsAt w en a.ents) (hlen : a.subs.length ≤ 1000000) (hlen2 : a.ents.length ≤ 1000000) :
    Calls Try.prog 48 #[.agg #[.int .i64 a.credit, su, en]] w fun e w' => e = .returned (.int .i64 (checkM a)) ∧ Below w.heap.size w w' := by
  obtain ⟨cr, l, es⟩ := a
  simp only at h he hlen hlen2 ⊢
  have HS := Lib.hid h
  have HE := Lib.hid he
  obtain ⟨r, hr⟩ : ∃ r, r = checkM ⟨cr, l, es⟩ := ⟨_, rfl⟩
  have hr2 := hr
  unfold checkM at hr2
  simp only at hr2
  have HR := Lib.hid hr2
  rw [← hr]
  clear hr hr2
  have HK := Lib.hid (show KInvC w cr su en (w.alloc (.cells #[.int .i64 cr, su, en] 56)) from ⟨heap_alloc_new w _, below_alloc w _⟩)
  have HPL := Lib.hid (fun W (hW : Below w.heap.size w W) => raplain_any ⟨cr, l, es⟩ su en W (HS.out.below hW) hlen)
  have HUN := Lib.hid (fun W (hW : Below w.heap.size w W) (h1 : l.length ≤ 1000) (h2 : amtB cr = true) => rauntil_any ⟨cr, l, es⟩ su en 36000 W (HS.out.below hW) (HE.out.below hW) h1 hlen2 h2)
  obtain ⟨ao, cap, rfl, hcap, hcells⟩ := he.shape
  obtain ⟨sa, scap, rfl, hscap, hscells⟩ : ∃ ao cap, su = .slice ao l.length cap ∧ l.length ≤ cap ∧ (0 < l.length → ∃ b o, ao = some ⟨b, o, none⟩ ∧ b < w.heap.size ∧ ∀ i, i < l.length → w.cell? ⟨b, o + i * 2, none⟩ = some (.int .i64 (subAt l i).id) ∧ w.cell? ⟨b, o + i * 2 + 1, none⟩ = some (.int .i64 (subAt l i).bal)) := by
    rcases h.open with ⟨rfl, ao, cap, rfl⟩ | ⟨_, b, o, cap, rfl, hcap, hb, hc⟩
    · exact ⟨ao, cap, rfl, Nat.zero_le _, fun h => by simp at h⟩
    · exact ⟨_, cap, rfl, hcap, fun _ => ⟨b, o, rfl, hb, hc⟩⟩
  have HEC := Lib.hid hcells
  have HSC := Lib.hid hscells
  obtain ⟨n, hn⟩ : ∃ n, n = l.length := ⟨_, rfl⟩
  obtain ⟨m, hm⟩ : ∃ m, m = es.length := ⟨_, rfl⟩
  have HN := Lib.hid hn
  have HM := Lib.hid hm
  have hnn : n ≤ 1000000 := by omega
  have hmm : m ≤ 1000000 := by omega
  rw [← hn] at hscap
  rw [← hm] at hcap
  rw [← hn, ← hm] at HPL HUN HK ⊢
  clear hcells hscells hn hm h he hlen hlen2 HS HE
  by_cases h1 : 20 < n
  · obtain rfl : r = 3 := HR.out.trans (if_pos (Or.inl (by rw [← HN.out]; exact h1)))
    have h1' : (20 : Int) < (n : Int) := by omega
    clear h1
    go_enter Try.func48, Try.ntmps48
    go_wp2
    go_ret
    exact ⟨rfl, HK.out.old⟩
  have h1' : ¬ (20 : Int) < (n : Int) := by omega
  by_cases h2 : 400 < m
  · obtain rfl : r = 3 := HR.out.trans (if_pos (Or.inr (by rw [← HM.out]; exact h2)))
    have h2' : (400 : Int) < (m : Int) := by omega
    clear h1 h2
    go_enter Try.func48, Try.ntmps48
    go_wp2
    go_ret
    exact ⟨rfl, HK.out.old⟩
  have h2' : ¬ (400 : Int) < (m : Int) := by omega
  have HR2 := Lib.hid (HR.out.trans (if_neg (by rw [← HN.out, ← HM.out]; omega)))
  have HN20 : Hid (n ≤ 20) := Lib.hid (by omega)
  clear HR h1 h2
  go_enter Try.func48, Try.ntmps48
  go_wp2_with fail
  refine (HPL.out _ HK.out.old).mono ?_
  cases hp : plainM ⟨cr, l, es⟩ with
  | false =>
    obtain rfl : r = 62 := HR2.out.trans (if_pos hp)
    rintro e w1 ⟨rfl, hb1⟩
    have HB1 := Lib.hid (HK.out.old.trans (hb1.mono HK.out.old.size))
    clear hb1 hp
    go_wp2
    go_ret
    exact ⟨rfl, HB1.out⟩
  | true =>
  have HR3 := Lib.hid (HR2.out.trans (if_neg (by rw [hp]; decide)))
  have hp2 := hp
  unfold plainM at hp2
  simp only [Bool.and_eq_true] at hp2
  have HAMT := Lib.hid hp2.1
  have HPOS : Hid (0 < n) := Lib.hid (by have := (idsM_true.1 hp2.2).1; rw [HN.out]; omega)
  clear hp hp2 HR2
  rintro e w1 ⟨rfl, hb1⟩
  have HK1 := Lib.hid (HK.out.later hb1)
  have hx1 := HK1.out.box
  have u2 := obj_cell hx1 2
  simp at u2
  clear hb1 hx1 HK HPL
  go_wp2
  go_loopw [25] (fun i wr => ∃ k : Nat, i = .int .i64 k ∧ k ≤ m ∧ Hid (∀ j, j < k → dayB' (entAt es j).day = true) ∧ Hid (KInvC w cr (.slice sa n scap) (.slice ao m cap) wr)) (fun i _ => m - (RowKit.intOf i).toNat)
  case atStart => exact ⟨0, rfl, by omega, Lib.hid (fun j hj => by omega), HK1⟩
  case round =>
    obtain ⟨k, rfl, hkm, HF, HI⟩ := hrel
    by_cases hlt : k < m
    · have hke : k < es.length := by rw [← HM.out]; exact hlt
      obtain ⟨b, o, rfl, hb, hc⟩ := HEC.out (by omega)
      have hbk := fun j (hj : j < 6) => (HI.out.old.cell (p := ⟨b, o + k * 6 + j, none⟩) hb).trans (hc k hke j hj)
      have HDA := Lib.hid (fun W => raday_any (entAt es k).day W)
      have HDN : Hid (dayB' (entAt es k).day = false → r = 62) := Lib.hid fun hd => HR3.out.trans (if_pos (by
        cases hq : daysM es with
        | false => rfl
        | true => have := daysM_all.1 hq k hke; rw [hd] at this; cases this))
      have HDY : Hid (dayB' (entAt es k).day = true → ∀ j, j < k + 1 → dayB' (entAt es j).day = true) := Lib.hid fun hd j hj => by
        rcases (by omega : j < k ∨ j = k) with hj | rfl
        · exact HF.out j hj
        · exact hd
      generalize entAt es k = x at *
      obtain ⟨x0, x1, x2, x3, x4, x5⟩ := x
      have c0 := hbk 0 (by omega)
      have c1 := hbk 1 (by omega)
      have c2 := hbk 2 (by omega)
      have c3 := hbk 3 (by omega)
      have c4 := hbk 4 (by omega)
      have c5 := hbk 5 (by omega)
      simp [Ent.cells] at c0 c1 c2 c3 c4 c5
      have HI2 := Lib.hid (HI.out.later (below_alloc wr (.cells #[.int .i64 x0, .int .i64 x1, .int .i64 x2, .int .i64 x3, .int .i64 x4, .int .i64 x5] 86)))
      have hk0 : (0 : Int) ≤ (k : Int) := by omega
      have hk1 : (k : Int) < (m : Int) := by omega
      simp only at HDA HDN HDY
      clear hbk hc HEC
      cases hd : dayB' x1 with
      | false =>
        rw [hd] at HDA
        obtain rfl : r = 62 := HDN.out hd
        clear hd HR3
        go_wp2_with (go_at_call 63; refine (HDA.out _).mono ?_; rintro e w' ⟨rfl, rfl⟩)
        go_ret
        exact ⟨rfl, HI2.out.old⟩
      | true =>
        rw [hd] at HDA
        have HF2 := Lib.hid (HDY.out hd)
        clear hd
        go_wp2_with (go_at_call 63; refine (HDA.out _).mono ?_; rintro e w' ⟨rfl, rfl⟩)
        go_roundw
        case rel => exact ⟨k + 1, by first | rfl | go_num, by omega, HF2, HI2⟩
        case measure => simp [RowKit.intOf]; omega
    · obtain rfl : k = m := by omega
      have HR4 := Lib.hid (HR3.out.trans (if_neg (by rw [daysM_all.2 (fun j hj => HF.out j (by rw [HM.out]; exact hj))]; decide)))
      have hxk := HI.out.box
      have u0 := obj_cell hxk 0
      have u1 := obj_cell hxk 1
      have u2 := obj_cell hxk 2
      simp at u0 u1 u2
      clear hxk HR3
      go_wp2_with fail
      refine (HUN.out _ HI.out.old (by have := HN20.out; omega) HAMT.out).mono ?_
      cases hq : untilM cr 36000 es (emptyM l) Ent.zero with
      | error c =>
        have hr62 := HR4.out
        rw [hq] at hr62
        obtain rfl : r = 62 := hr62
        have hc0 : c ≠ 0 := untilM_err hq
        have hc1 : (c == 0) = false := by rw [beq_eq_false_iff_ne]; exact hc0
        have hc2 : (c != 0) = true := by rw [bne, hc1]; rfl
        rintro e w5 ⟨rfl, hb5⟩
        have HB5 := Lib.hid (HI.out.old.trans (hb5.mono HI.out.old.size))
        clear hb5 hq hc0
        go_wp2
        go_ret
        exact ⟨rfl, HB5.out⟩
      | ok q =>
        have hr5 := HR4.out
        rw [hq] at hr5
        have HR5 := Lib.hid hr5
        have HQL : Hid (q.length = n) := Lib.hid (by rw [HN.out, len_of_ids ((untilM_ids _ _ _ _ _ _ hq).trans (emptyM_ids l))])
        rintro e w5 ⟨v5, rfl, hown5, hb5⟩
        rw [HQL.out] at hown5
        obtain ⟨g, gc, rfl, hg0, hgc⟩ := owns_shape hown5 HPOS.out
        have HK5 := Lib.hid (HI.out.later hb5)
        have HO5 := Lib.hid hown5
        have hx5 := HK5.out.box
        have t1 := obj_cell hx5 1
        simp at t1
        clear hb5 hq hr5 hown5 hx5 HR4 u0 u1 u2
        go_wp2
        go_loopw [44] (fun i wx => ∃ j : Nat, i = .int .i64 j ∧ j ≤ n ∧ Hid (∀ p, p < j → subAt q p = subAt l p) ∧ Hid (Below w.heap.size w wx) ∧ Hid (Below w5.heap.size w5 wx)) (fun i _ => n - (RowKit.intOf i).toNat)
        case atStart => exact ⟨0, rfl, by omega, Lib.hid (fun p hp => by omega), Lib.hid HK5.out.old, Lib.hid (Below.refl _ _)⟩
        case round =>
          obtain ⟨j, rfl, hjn, HFJ, HBJ, HB5J⟩ := hrel
          by_cases hltj : j < n
          · have hjl : j < l.length := by rw [← HN.out]; exact hltj
            obtain ⟨sb, so, rfl, hsb, hsc⟩ := HSC.out (by omega)
            have c0 : wr.cell? ⟨sb, so + j * 2, none⟩ = some (.int .i64 (subAt l j).id) := (HBJ.out.cell (p := ⟨sb, so + j * 2, none⟩) hsb).trans (hsc j hjl).1
            have c1 : wr.cell? ⟨sb, so + j * 2 + 1, none⟩ = some (.int .i64 (subAt l j).bal) := (HBJ.out.cell (p := ⟨sb, so + j * 2 + 1, none⟩) hsb).trans (hsc j hjl).2
            obtain ⟨q0, q1⟩ := cellsU_get q j (by rw [HQL.out]; exact hltj)
            have hgl : g < w5.heap.size := (HO5.out.lt g rfl).2
            have d0 : wr.cell? ⟨g, j * 2, none⟩ = some (.int .i64 (subAt q j).id) := (HB5J.out.cell (p := ⟨g, j * 2, none⟩) hgl).trans ((HO5.out.cellAt (j * 2) (by omega)).trans q0)
            have d1 : wr.cell? ⟨g, j * 2 + 1, none⟩ = some (.int .i64 (subAt q j).bal) := (HB5J.out.cell (p := ⟨g, j * 2 + 1, none⟩) hgl).trans ((HO5.out.cellAt (j * 2 + 1) (by omega)).trans q1)
            have hj0 : (0 : Int) ≤ (j : Int) := by omega
            have hj1 : (j : Int) < (n : Int) := by omega
            have hglr : g < wr.heap.size := Nat.lt_of_lt_of_le hgl HB5J.out.size
            have HDF : Hid (subAt q j ≠ subAt l j → r = 62) := Lib.hid fun hd => HR5.out.trans (if_neg (by rw [sameL_eq]; intro e; rw [e] at hd; exact hd rfl))
            have HEQ : Hid (subAt q j = subAt l j → ∀ p, p < j + 1 → subAt q p = subAt l p) := Lib.hid fun hd p hp => by
              rcases (by omega : p < j ∨ p = j) with hp | rfl
              · exact HFJ.out p hp
              · exact hd
            generalize subAt l j = x at *
            generalize subAt q j = y at *
            obtain ⟨x0, x1⟩ := x
            obtain ⟨y0, y1⟩ := y
            simp only at c0 c1 d0 d1
            have HB2 := Lib.hid (HBJ.out.alloc HBJ.out.size (.cells #[.int .i64 x0, .int .i64 x1] 62))
            have HB52 := Lib.hid (HB5J.out.alloc HB5J.out.size (.cells #[.int .i64 x0, .int .i64 x1] 62))
            clear hsc HSC q0 q1
            by_cases heq : y0 = x0 ∧ y1 = x1
            · obtain ⟨rfl, rfl⟩ := heq
              have HF2 := Lib.hid (HEQ.out rfl)
              have hne := fun W => sub_neq_same y0 y1 W
              go_wp2
              go_quiet (fail)
              go_wp2
              go_roundw
              case rel => exact ⟨j + 1, by first | rfl | go_num, by omega, HF2, Lib.hid (below_drewN HB2.out _), Lib.hid (below_drewN HB52.out _)⟩
              case measure => simp [RowKit.intOf]; omega
            · have hne := fun W => sub_neq_differ y0 y1 x0 x1 heq W
              obtain rfl : r = 62 := HDF.out (fun e => heq (by injection e with e1 e2; exact ⟨e1, e2⟩))
              clear heq
              go_wp2
              go_quiet (fail)
              go_wp2
              go_ret
              exact ⟨rfl, below_drewN HB2.out _⟩
          · obtain rfl : j = n := by omega
            obtain rfl : r = 0 := HR5.out.trans (if_pos (sameL_eq.2 (subs_eq (HQL.out.trans HN.out) (fun p hp => HFJ.out p (by rw [HN.out]; exact hp)))))
            go_wp2
            go_ret
            exact ⟨rfl, HBJ.out⟩

end Go.Proofs.Ytoelidndnajedab
