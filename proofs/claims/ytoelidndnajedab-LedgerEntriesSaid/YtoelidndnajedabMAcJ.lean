/- The contract of the account's own replay: the balances that all entries make, in a new row, or none. -/
import Derived.Test.YtoelidndnajedabMG7
import Derived.Test.YtoelidndnajedabMAcH
import Derived.Test.YtoelidndnajedabMAcU
set_option linter.unusedSimpArgs false
set_option linter.unusedVariables false
set_option linter.unusedSimpArgs false
set_option linter.unusedVariables false
namespace Go.Proofs.Ytoelidndnajedab
open Go.RowKit Go.Lib Go.Proofs

/-- What replay hands back. -/
def ReplayPost (w : World) : Option (List SubA) → Ending → World → Prop
  | some m, e, w' => ∃ v, e = .returned (.tuple #[v, .bool true]) ∧ w'.ownsRow w.heap.size 62 2 v m.length (cellsU m) ∧ Below w.heap.size w w'
  | none, e, w' => e = .returned (.tuple #[.slice none 0 0, .bool false]) ∧ Below w.heap.size w w'

theorem noZero_ids {l : List SubA} (h : idsM l = true) : NoZero l := noZero_plain (a := ⟨0, l, []⟩) (by unfold plainM; rw [h]; rfl)

/-- A world within replay: the balances so far, the last entry, the account. -/
structure RInv (w : World) (cr : Int) (su en : Value) (base lb : Nat) (v : Value) (m : List SubA) (last : Ent) (W : World) : Prop where
  row : W.ownsRow base 62 2 v m.length (cellsU m)
  last : W.heap[lb]? = some (.cells last.cells.toArray 86 (0, 0))
  box : W.heap[w.heap.size]? = some (.cells #[.int .i64 cr, su, en] 56 (0, 0))
  old : Below w.heap.size w W
  far : w.heap.size < base
  apart : v.ownBlock = none ∨ ∃ g, v.ownBlock = some g ∧ base ≤ g ∧ g < lb
theorem RInv.later {w : World} {cr : Int} {su en : Value} {base lb : Nat} {v : Value} {m : List SubA} {last : Ent} {A B : World} (h : RInv w cr su en base lb v m last A) (hb : Below A.heap.size A B) : RInv w cr su en base lb v m last B :=
  ⟨ownsRow_below h.row hb, obj_below h.last hb, obj_below h.box hb, h.old.trans (hb.mono h.old.size), h.far, h.apart⟩
theorem RInv.carried {w : World} {cr : Int} {su en : Value} {base lb : Nat} {v : Value} {m m' : List SubA} {last : Ent} {A B : World} (h : RInv w cr su en base lb v m last A) (ho : B.ownsRow base 62 2 v m'.length (cellsU m')) (hg : A.grownBy B v.ownBlock) : RInv w cr su en base lb v m' last B := by
  have hf := h.far
  refine ⟨ho, (hg.block _ (obj_lt h.last) ?_).trans h.last, (hg.block _ (obj_lt h.box) ?_).trans h.box, h.old.grown hg h.old.size ?_, h.far, h.apart⟩
  · rcases h.apart with q | ⟨g, q, q1, q2⟩ <;> rw [q] <;> simp <;> omega
  · rcases h.apart with q | ⟨g, q, q1, q2⟩ <;> rw [q] <;> simp <;> omega
  · intro k hk
    rcases h.apart with q | ⟨g, q, q1, q2⟩
    · rw [q] at hk; cases hk
    · rw [q] at hk; injection hk with hk; omega

set_option maxRecDepth 100000 in
set_option maxHeartbeats 8000000 in
theorem acreplay_any (a : Acc) (su en : Value) (w : World) (h : SubsAt w su a.subs) (he : EntsAt w en a.ents) (hlen : a.subs.length ≤ 1000) (hlen2 : a.ents.length ≤ 1000000) :
    Calls Try.prog 60 #[.agg #[.int .i64 a.credit, su, en]] w (ReplayPost w (replayM a)) := by
  obtain ⟨cr, l, es⟩ := a
  simp only at h he hlen hlen2 ⊢
  obtain ⟨r, hr⟩ : ∃ r, r = replayM ⟨cr, l, es⟩ := ⟨_, rfl⟩
  have HR : Hid (r = if amtB cr = true then (if idsM l = true then repM cr es (emptyM l) Ent.zero else none) else none) := Lib.hid hr
  rw [← hr]
  clear hr
  have HV : Hid (∀ W, Calls Try.prog 55 #[.int .i64 cr] W fun e w' => e = .returned (.bool (amtB cr)) ∧ W = w') := Lib.hid (fun W => Valid_any cr W)
  cases hv : amtB cr with
  | false =>
    rw [hv] at HV HR
    obtain rfl : r = none := HR.out.trans (if_neg (by decide))
    clear hv HR h he hlen hlen2
    go_enter Try.func60, Try.ntmps60
    go_wp2_with (go_at_call 55; refine (HV.out _).mono ?_; rintro e w' ⟨rfl, rfl⟩)
    go_ret2
    exact ⟨rfl, below_alloc w _⟩
  | true =>
  have HCR := Lib.hid hv
  rw [hv] at HV HR
  have HR1 : Hid (r = if idsM l = true then repM cr es (emptyM l) Ent.zero else none) := Lib.hid (HR.out.trans (if_pos rfl))
  clear hv HR
  have HBX := Lib.hid (heap_alloc_new w (.cells #[.int .i64 cr, su, en] 56))
  have HIDS := Lib.hid (fun W (hW : Below w.heap.size w W) => acids_any cr su en l W (h.below hW) (by omega))
  have HVAL := Lib.hid (fun (v : Value) (W : World) (hW : NumsAt W v (idsL l)) => acvalid_any v (idsL l) W hW (by rw [idsL_len]; omega))
  have hval : idsV (idsL l) = idsM l := idsV_ids l
  rw [hval] at HVAL
  have HEMP := Lib.hid (fun (v : Value) (W : World) (hW : NumsAt W v (idsL l)) => acempty_any v (idsL l) W hW (by rw [idsL_len]; omega))
  have hz : zerosV (idsL l) = emptyM l := zerosV_ids l
  rw [hz, idsL_len] at HEMP
  have HB0 := Lib.hid (below_alloc w (.cells #[.int .i64 cr, su, en] 56))
  have HLL : Hid (l.length ≤ 1000) := Lib.hid hlen
  clear hval hz h hlen
  cases hm : idsM l with
  | false =>
    rw [hm] at HVAL HR1
    obtain rfl : r = none := HR1.out.trans (if_neg (by decide))
    clear hm HR1 he hlen2 HEMP
    go_enter Try.func60, Try.ntmps60
    go_wp2_with (go_at_call 55; refine (HV.out _).mono ?_; rintro e w' ⟨rfl, rfl⟩)
    refine (HIDS.out _ HB0.out).mono ?_
    rintro e w1 ⟨v1, rfl, ho1, hb1⟩
    have HB1 := Lib.hid (HB0.out.trans (hb1.mono HB0.out.size))
    have HN1 : Hid (NumsAt w1 v1 (idsL l)) := Lib.hid (NumsAt.owns (by rw [idsL_len]; exact ho1))
    clear ho1 hb1
    go_wp2_with fail
    refine (HVAL.out _ _ HN1.out).mono ?_
    rintro e w2 ⟨rfl, hb2⟩
    have HB2 := Lib.hid (HB1.out.trans (hb2.mono HB1.out.size))
    clear hb2
    go_wp2
    go_ret2
    exact ⟨rfl, HB2.out⟩
  | true =>
  have HNZ := Lib.hid (noZero_ids hm)
  rw [hm] at HVAL HR1
  have HR2 : Hid (r = repM cr es (emptyM l) Ent.zero) := Lib.hid (HR1.out.trans (if_pos rfl))
  clear hm HR1
  obtain ⟨n, hn⟩ : ∃ n, n = es.length := ⟨_, rfl⟩
  have HN := Lib.hid hn
  obtain ⟨ao, cap, rfl, hcap, hcs⟩ := (ents_list.1 he).shape entF
  have HCS := Lib.hid hcs
  rw [← hn] at hcap hlen2 HBX HB0 HIDS ⊢
  clear hn hcs he
  go_enter Try.func60, Try.ntmps60
  go_wp2_with (go_at_call 55; refine (HV.out _).mono ?_; rintro e w' ⟨rfl, rfl⟩)
  refine (HIDS.out _ HB0.out).mono ?_
  rintro e w1 ⟨v1, rfl, ho1, hb1⟩
  have HB1 := Lib.hid (HB0.out.trans (hb1.mono HB0.out.size))
  have HX1 := Lib.hid (obj_below HBX.out hb1)
  have HN1 : Hid (NumsAt w1 v1 (idsL l)) := Lib.hid (NumsAt.owns (by rw [idsL_len]; exact ho1))
  clear ho1 hb1
  go_wp2_with fail
  refine (HVAL.out _ _ HN1.out).mono ?_
  rintro e w2 ⟨rfl, hb2⟩
  have HB2 := Lib.hid (HB1.out.trans (hb2.mono HB1.out.size))
  have HX2 := Lib.hid (obj_below HX1.out hb2)
  have u0 := obj_cell HX2.out 0
  have u1 := obj_cell HX2.out 1
  have u2 := obj_cell HX2.out 2
  simp at u0 u1 u2
  clear hb2
  go_wp2_with fail
  refine (HIDS.out _ HB2.out).mono ?_
  rintro e w3 ⟨v3, rfl, ho3, hb3⟩
  have HB3 := Lib.hid (HB2.out.trans (hb3.mono HB2.out.size))
  have HX3 := Lib.hid (obj_below HX2.out hb3)
  have HN3 : Hid (NumsAt w3 v3 (idsL l)) := Lib.hid (NumsAt.owns (by rw [idsL_len]; exact ho3))
  clear ho3 hb3 u0 u1 u2
  go_wp2_with fail
  refine (HEMP.out _ _ HN3.out).mono ?_
  rintro e w4 ⟨v, rfl, ho4, hb4⟩
  have HB4 := Lib.hid (HB3.out.trans (hb4.mono HB3.out.size))
  have HX4 := Lib.hid (obj_below HX3.out hb4)
  have hlt3 : w.heap.size < w3.heap.size := obj_lt HX3.out
  have hap : v.ownBlock = none ∨ ∃ g, v.ownBlock = some g ∧ w3.heap.size ≤ g ∧ g < w4.heap.size := by
    cases hs : v.ownBlock with
    | none => exact Or.inl rfl
    | some g => exact Or.inr ⟨g, rfl, ho4.lt g hs⟩
  have HI0 : Hid (RInv w cr su (.slice ao n cap) w3.heap.size w4.heap.size v (emptyM l) Ent.zero (w4.alloc (.cells #[.int .i64 0, .int .i64 0, .int .i64 0, .int .i64 0, .int .i64 0, .int .i64 0] 86))) := Lib.hid ⟨World.ownsRow.alloc (by rw [emptyM_len]; exact ho4) _, heap_alloc_new w4 _, obj_below HX4.out (below_alloc w4 _), HB4.out.alloc HB4.out.size _, hlt3, hap⟩
  have u2 := obj_cell HX4.out 2
  simp at u2
  have hww4 : w.heap.size < w4.heap.size := obj_lt HX4.out
  have HSZ4 : Hid (w.heap.size ≤ w3.heap.size) := Lib.hid (by omega)
  clear ho4 hb4 hap hlt3 HIDS HVAL HEMP HN1 HN3 HV HBX HX1 HX2 HX3 HX4 HB1 HB2 HB3 HB4
  go_wp2
  generalize w4.heap.size = lb at *
  generalize w3.heap.size = base at *
  go_loopw [25] (fun i wr => ∃ (k : Nat) (m : List SubA) (last : Ent), i = .int .i64 k ∧ k ≤ n ∧ Hid (r = repM cr (es.drop k) m last) ∧ Hid (RInv w cr su (.slice ao n cap) base lb v m last wr) ∧ Hid (last.number = k) ∧ Hid (0 ≤ last.day) ∧ Hid (m.map SubA.id = l.map SubA.id) ∧ Hid (Bals cr m)) (fun i _ => n - (RowKit.intOf i).toNat)
  case atStart => exact ⟨0, emptyM l, Ent.zero, rfl, by omega, Lib.hid HR2.out, HI0, Lib.hid rfl, Lib.hid (Int.le_refl _), Lib.hid (emptyM_ids l), Lib.hid (emptyM_bals l)⟩
  case round =>
    obtain ⟨k, m, last, rfl, hkn, HG, HI, HNM, HDY, HML, HBL⟩ := hrel
    by_cases hlt : k < n
    · have hkl : k < es.length := by rw [← HN.out]; exact hlt
      obtain ⟨b, o, rfl, hb, hc⟩ := HCS.out (by omega)
      have hbk := fun j (hj : j < 6) => (HI.out.old.cell (p := ⟨b, o + k * 6 + j, none⟩) hb).trans (hc k hkl j hj)
      rw [← entAt_get hkl] at hbk
      have hg := HG.out
      rw [drop_ent hkl] at hg
      have HG2 := Lib.hid hg
      generalize entAt es k = x at *
      have hml : m.length = l.length := len_of_ids HML.out
      have hcarry : ∀ W, RInv w cr su (.slice (some ⟨b, o, none⟩) n cap) base lb v m last W → Calls Try.prog 74 #[v, .int .i64 cr, .agg last.cells.toArray, .agg x.cells.toArray] W (CarryPost base v m W (addM cr m last x)) := fun W hW => accarry_any base cr v m last x W hW.row (by have := HLL.out; omega) HCR.out HBL.out (noZero_of_ids HML.out.symm HNZ.out) (by rw [HNM.out]; omega) (by rw [HNM.out]; omega) HDY.out
      have HC := Lib.hid hcarry
      have HI2 := Lib.hid (HI.out.later (below_alloc wr (.cells x.cells.toArray 86)))
      have HXB := Lib.hid (heap_alloc_new wr (.cells x.cells.toArray 86))
      obtain ⟨x0, x1, x2, x3, x4, x5⟩ := x
      obtain ⟨y0, y1, y2, y3, y4, y5⟩ := last
      have c0 := hbk 0 (by omega)
      have c1 := hbk 1 (by omega)
      have c2 := hbk 2 (by omega)
      have c3 := hbk 3 (by omega)
      have c4 := hbk 4 (by omega)
      have c5 := hbk 5 (by omega)
      simp [Ent.cells] at c0 c1 c2 c3 c4 c5
      simp only [Ent.cells] at HC HI2 HXB
      have hla := HI.out.last
      have hba := HI.out.box
      have v0 := obj_cell hba 0
      have t0 := obj_cell hla 0
      have t1 := obj_cell hla 1
      have t2 := obj_cell hla 2
      have t3 := obj_cell hla 3
      have t4 := obj_cell hla 4
      have t5 := obj_cell hla 5
      simp [Ent.cells] at v0 t0 t1 t2 t3 t4 t5
      have hbw : b < wr.heap.size := Nat.lt_of_lt_of_le hb HI.out.old.size
      have hlbw : lb < wr.heap.size := obj_lt hla
      have hww : w.heap.size < wr.heap.size := obj_lt hba
      have hk0 : (0 : Int) ≤ (k : Int) := by omega
      have hk1 : (k : Int) < (n : Int) := by omega
      clear hbk hg hcarry hla hba HG hc hml
      go_wp2_with fail
      refine (HC.out _ HI2.out).mono ?_
      cases hq : addM cr m ⟨y0, y1, y2, y3, y4, y5⟩ ⟨x0, x1, x2, x3, x4, x5⟩ with
      | error c =>
        have hc0 := addM_err hq
        obtain rfl : r = none := by rw [HG2.out]; simp only [repM, hq]
        have hc1 : (c == 0) = false := by rw [beq_eq_false_iff_ne]; exact hc0
        have hc2 : (c != 0) = true := by rw [bne, hc1]; rfl
        rintro e w5 ⟨rfl, ho5, hg5⟩
        have HB5 := Lib.hid (HI2.out.carried ho5 hg5).old
        clear ho5 hg5 hq hc0
        go_wp2
        go_ret2
        exact ⟨rfl, HB5.out⟩
      | ok m' =>
        rintro e w5 ⟨rfl, ho5, hg5⟩
        have HIDM := Lib.hid ((addM_ids hq).trans HML.out)
        have hmm : m'.length = m.length := len_of_ids (addM_ids hq)
        rw [← hmm] at ho5
        have hi5 := HI2.out.carried ho5 hg5
        have HNX := Lib.hid (addM_number hq)
        have hff := faultE_zero (addM_parts hq).1
        have HDX : Hid (0 ≤ x1) := Lib.hid hff.2.2.1.1
        have HBX5 := Lib.hid (addM_bals hq HBL.out)
        have HG4 : Hid (r = repM cr (es.drop (k + 1)) m' ⟨x0, x1, x2, x3, x4, x5⟩) := Lib.hid (by rw [HG2.out]; simp only [repM, hq])
        have HI5 := Lib.hid hi5
        have hxe5 : w5.heap[wr.heap.size]? = some (.cells #[.int .i64 x0, .int .i64 x1, .int .i64 x2, .int .i64 x3, .int .i64 x4, .int .i64 x5] 86 (0, 0)) := (hg5.block _ (obj_lt HXB.out) (by
          rcases HI.out.apart with q | ⟨g, q, q1, q2⟩
          · rw [q]; simp
          · rw [q]; simp; omega)).trans HXB.out
        have hl5 := hi5.last
        have z0 := obj_cell hxe5 0
        have z1 := obj_cell hxe5 1
        have z2 := obj_cell hxe5 2
        have z3 := obj_cell hxe5 3
        have z4 := obj_cell hxe5 4
        have z5 := obj_cell hxe5 5
        have s0 := obj_cell hl5 0
        have s1 := obj_cell hl5 1
        have s2 := obj_cell hl5 2
        have s3 := obj_cell hl5 3
        have s4 := obj_cell hl5 4
        have s5 := obj_cell hl5 5
        have f0 := obj_free hl5 0
        have f1 := obj_free hl5 1
        have f2 := obj_free hl5 2
        have f3 := obj_free hl5 3
        have f4 := obj_free hl5 4
        have f5 := obj_free hl5 5
        simp [Ent.cells] at z0 z1 z2 z3 z4 z5 s0 s1 s2 s3 s4 s5
        have hne5 : wr.heap.size ≠ lb := by omega
        clear ho5 hg5 hi5 hxe5 hq hl5 hff hmm HG2 HI2 HXB HC
        go_upto_region 11 with fail
        obtain ⟨W7, hW7⟩ : ∃ W, W = put6 w5 lb (.int .i64 x0) (.int .i64 x1) (.int .i64 x2) (.int .i64 x3) (.int .i64 x4) (.int .i64 x5) := ⟨_, rfl⟩
        have HI7 : Hid (RInv w cr su (.slice (some ⟨b, o, none⟩) n cap) base lb v m' ⟨x0, x1, x2, x3, x4, x5⟩ W7) := Lib.hid (by
          have hfar := HI5.out.far
          have hap := HI5.out.apart
          have hlb : w.heap.size < lb := by have h1 := obj_lt HI5.out.last; have h2 := HSZ4.out; omega
          have hgr : w5.grownBy (put6 w5 lb (.int .i64 x0) (.int .i64 x1) (.int .i64 x2) (.int .i64 x3) (.int .i64 x4) (.int .i64 x5)) (some lb) := put6_grown _ _ _ _ _ _ _ _
          rw [hW7]
          exact ⟨HI5.out.row.kept hgr (by rcases hap with q | ⟨g, q, q1, q2⟩; exact Or.inl q; exact Or.inr (by rw [q]; simp; omega)), put6_at HI5.out.last rfl _ _ _ _ _ _, (hgr.block _ (obj_lt HI5.out.box) (by simp; omega)).trans HI5.out.box, put6_below HI5.out.old (by omega) _ _ _ _ _ _, hfar, hap⟩)
        show Code.wp _ _ _ _ (put6 w5 lb (.int .i64 x0) (.int .i64 x1) (.int .i64 x2) (.int .i64 x3) (.int .i64 x4) (.int .i64 x5))
        rw [← hW7]
        clear hW7 s0 s1 s2 s3 s4 s5 f0 f1 f2 f3 f4 f5 z0 z1 z2 z3 z4 z5
        go_wp2
        go_roundw
        case rel => exact ⟨k + 1, m', ⟨x0, x1, x2, x3, x4, x5⟩, by first | rfl | go_num, by omega, HG4, HI7, Lib.hid (by have h1 := HNX.out; have h2 := HNM.out; simp only at h1 h2 ⊢; rw [h1, h2]; simp), Lib.hid HDX.out, HIDM, HBX5⟩
        case measure => simp [RowKit.intOf]; omega
    · obtain rfl : k = n := by omega
      obtain rfl : r = some m := HG.out.trans (by rw [HN.out, List.drop_length]; rfl)
      go_wp2
      go_ret2
      exact ⟨_, rfl, ownsRow_mono HI.out.row (Nat.le_of_lt HI.out.far), HI.out.old⟩

end Go.Proofs.Ytoelidndnajedab
