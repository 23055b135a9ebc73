/- sweep.Plan's closure: one more entry at the plan's end. -/
import Derived.Test.YtoelidndnajedaaSwC
import Derived.Test.YtoelidndnajedaaAcY
import Derived.Test.YtoelidndnajedaaAcO
set_option linter.unusedSimpArgs false
set_option linter.unusedVariables false
namespace Go.Proofs.Ytoelidndnajedaa
open Go.RowKit Go.Lib Go.Proofs

/-- A world within Plan: the account, the day and the plan in boxes, the plan in memory of its own. -/
structure PI (w : World) (bA bD bP : Nat) (a : Acc) (su en : Value) (day : Int) (out : List Ent) (W : World) : Prop where
  old : Below w.heap.size w W
  box : W.heap[bA]? = some (.cells #[.int .i64 a.credit, su, en] 28 (0, 0))
  day : W.heap[bD]? = some (.cells #[.int .i64 day] 3 (0, 0))
  plan : ∃ ao cap, W.heap[bP]? = some (.cells #[.slice ao out.length cap] 26 (0, 0)) ∧ W.ownsRow (bP + 1) 38 6 (.slice ao out.length cap) out.length (cellsN out)
  lo : w.heap.size ≤ bA ∧ w.heap.size ≤ bD ∧ bA < bP ∧ bD < bP
theorem PI.below {w : World} {bA bD bP : Nat} {a : Acc} {su en : Value} {day : Int} {out : List Ent} {A B : World} (h : PI w bA bD bP a su en day out A) (hb : Below A.heap.size A B) : PI w bA bD bP a su en day out B := by
  obtain ⟨h1, h2, h3, ⟨ao, cap, h4, h5⟩, h6⟩ := h
  exact ⟨h1.trans (hb.mono h1.size), obj_below h2 hb, obj_below h3 hb, ⟨ao, cap, obj_below h4 hb, ownsRow_below h5 hb⟩, h6⟩

theorem cellsN_snoc (l : List Ent) (e : Ent) : cellsN l ++ e.cells = cellsN (l ++ [e]) := by
  rw [cellsN_app]; simp [cellsN]

set_option maxRecDepth 100000 in
set_option maxHeartbeats 4000000 in
theorem swPlanC_any {w : World} {bA bD bP : Nat} {a : Acc} {su en : Value} {day : Int} {out : List Ent} {W : World} (frm tt x : Int) (h : PI w bA bD bP a su en day out W) (he : EntsAt W en a.ents) (hr : checkM a = 0) (hlen : out.length ≤ 1000000) :
    Calls Try.prog 60 #[.int .i64 frm, .int .i64 tt, .int .i64 x, .pointer (some ⟨bA, 0, none⟩), .pointer (some ⟨bD, 0, none⟩), .pointer (some ⟨bP, 0, none⟩)] W fun e w' => e = .returned (.tuple #[]) ∧ PI w bA bD bP a su en day (out ++ [⟨a.ents.length + 1 + out.length, day, frm, tt, x, 0⟩]) w' ∧ W.heap.size ≤ w'.heap.size := by
  obtain ⟨i0, hi, hz0, hz1, hz2⟩ := infoE_parts
  have hz := checkM_zero.1 hr
  have hnum := right_number hr
  have HNX : Hid (Calls Try.prog 42 #[.agg #[.int .i64 a.credit, su, en], .int .i64 day, .int .i64 frm, .int .i64 tt, .int .i64 x, .int .i64 0] W fun e w' => e = .returned (.agg #[.int .i64 ((a.ents.length : Int) + 1), .int .i64 day, .int .i64 frm, .int .i64 tt, .int .i64 x, .int .i64 0]) ∧ Below W.heap.size W w') := Lib.hid (by
    have g := acNext_any a.ents a.credit su en day frm tt x 0 W he (by omega) (by omega) (by omega)
    unfold nextM at g
    rw [hnum] at g
    exact g)
  obtain ⟨h1, h2, h3, ⟨ao, cap, h4, h5⟩, h6⟩ := h
  obtain ⟨m, hm⟩ : ∃ m, m = a.ents.length := ⟨_, rfl⟩
  obtain ⟨n, hn⟩ : ∃ n, n = out.length := ⟨_, rfl⟩
  have hm4 : m ≤ 400 := by rw [hm]; exact hz.2.1
  have HN := Lib.hid hn
  rw [← hn] at h4 h5 hlen
  rw [← hm] at HNX ⊢
  have HPI : Hid (PI w bA bD bP a su en day out W) := Lib.hid ⟨h1, h2, h3, ⟨ao, cap, by rw [← hn]; exact h4, by rw [← hn]; exact h5⟩, h6⟩
  have u0 := obj_cell h2 0
  have u1 := obj_cell h2 1
  have u2 := obj_cell h2 2
  have d0 := obj_cell h3 0
  simp at u0 u1 u2 d0
  clear hz hnum hm hn h1 h2 h3 h4 h5 he hr
  go_enter Try.func60, Try.ntmps60
  go_wp2_with fail
  refine (HNX.out).mono ?_
  rintro e w1 ⟨rfl, hb1⟩
  have HP1 := Lib.hid (HPI.out.below hb1)
  have HS1 := Lib.hid hb1.size
  clear hb1 u0 u1 u2 d0 HPI HNX
  obtain ⟨ao, cap, h4, h5⟩ := HP1.out.plan
  rw [← HN.out] at h4 h5
  have HO := Lib.hid h5
  have p0 := obj_cell h4 0
  have hbl := obj_lt h4
  simp at p0
  have hlo := h6
  clear h4 h5 h6
  go_upto_region 2 with fail
  obtain ⟨w2, hw2⟩ : ∃ w2, w2 = w1.alloc (.cells #[.int .i64 ((m : Int) + 1 + (n : Int)), .int .i64 day, .int .i64 frm, .int .i64 tt, .int .i64 x, .int .i64 0] 38) := ⟨_, rfl⟩
  have HP2 : Hid (PI w bA bD bP a su en day out w2) := Lib.hid (by rw [hw2]; exact HP1.out.below (below_alloc _ _))
  have HX2 : Hid (w2.heap[w1.heap.size]? = some (.cells #[.int .i64 ((m : Int) + 1 + (n : Int)), .int .i64 day, .int .i64 frm, .int .i64 tt, .int .i64 x, .int .i64 0] 38 (0, 0))) := Lib.hid (by rw [hw2]; exact heap_alloc_new _ _)
  have HS2 : Hid (W.heap.size ≤ w2.heap.size) := Lib.hid (by rw [hw2]; simp; have := HS1.out; omega)
  rw [← hw2]
  obtain ⟨bE, hbE⟩ : ∃ bE, bE = w1.heap.size := ⟨_, rfl⟩
  rw [← hbE] at HX2 ⊢
  have hbe : bP < bE := by omega
  clear hw2 p0 HO hbl HP1 HS1 hbE
  obtain ⟨ao, cap, h4, h5⟩ := HP2.out.plan
  rw [← HN.out] at h4 h5
  have HO := Lib.hid h5
  have HQ := Lib.hid h4
  have p0 := obj_cell h4 0
  simp at p0
  have e0 := obj_cell HX2.out 0
  have e1 := obj_cell HX2.out 1
  have e2 := obj_cell HX2.out 2
  have e3 := obj_cell HX2.out 3
  have e4 := obj_cell HX2.out 4
  have e5 := obj_cell HX2.out 5
  simp at e0 e1 e2 e3 e4 e5
  clear h4 h5
  have HFIN : Hid (∀ (W5 : World) (v' : Value), (w2.alloc (.cells #[.int .i64 ((m : Int) + 1 + (n : Int)), .int .i64 day, .int .i64 frm, .int .i64 tt, .int .i64 x, .int .i64 0] 38)).grownBy W5 (Value.slice ao n cap).ownBlock → W5.ownsRow (bP + 1) 38 6 v' (n + 1) (cellsN out ++ [.int .i64 ((m : Int) + 1 + (n : Int)), .int .i64 day, .int .i64 frm, .int .i64 tt, .int .i64 x, .int .i64 0]) → PI w bA bD bP a su en day (out ++ [⟨(m : Int) + 1 + out.length, day, frm, tt, x, 0⟩]) (W5.setCell ⟨bP, 0, none⟩ v') ∧ W.heap.size ≤ (W5.setCell ⟨bP, 0, none⟩ v').heap.size) := Lib.hid fun W5 v' hg ho => by
    have hne : ∀ b, b ≤ bP → some b ≠ (Value.slice ao n cap).ownBlock := fun b hb e => by have := ownBlock_le HO.out b e.symm; omega
    have hP := HP2.out.below (below_alloc w2 (.cells #[.int .i64 ((m : Int) + 1 + (n : Int)), .int .i64 day, .int .i64 frm, .int .i64 tt, .int .i64 x, .int .i64 0] 38))
    have g2 := (hg.block bA (obj_lt hP.box) (hne _ (by omega))).trans hP.box
    have g3 := (hg.block bD (obj_lt hP.day) (hne _ (by omega))).trans hP.day
    have hq := obj_below HQ.out (below_alloc w2 (.cells #[.int .i64 ((m : Int) + 1 + (n : Int)), .int .i64 day, .int .i64 frm, .int .i64 tt, .int .i64 x, .int .i64 0] 38))
    have g4 := (hg.block bP (obj_lt hq) (hne _ (Nat.le_refl _))).trans hq
    obtain ⟨ao', cap', rfl, -, -⟩ := owns_gen ho
    refine ⟨⟨?_, ?_, ?_, ⟨ao', cap', ?_, ?_⟩, hlo⟩, ?_⟩
    · exact (hP.old.grown hg hP.old.size (fun k hk => by have := ownBlock_le HO.out k hk; omega)).setCell (by show w.heap.size ≤ bP; omega) _
    · exact (Below.heap_setCell W5 _ _ _ (by show bA ≠ bP; omega)).trans g2
    · exact (Below.heap_setCell W5 _ _ _ (by show bD ≠ bP; omega)).trans g3
    · have := obj_set g4 0 (.slice ao' (n + 1) cap')
      rw [List.length_append, ← HN.out]
      simpa using this
    · have h8 := ho.kept (setCell_grown (b := bP) 0 (.slice ao' (n + 1) cap')) (ownBlock_ne ho _ (by omega))
      rw [List.length_append, ← cellsN_snoc, ← HN.out]
      exact h8
    · have := hg.size
      have h9 := HS2.out
      simp [World.setCell] at this ⊢
      omega
  go_wp2_with (at_builtin; refine wpList_append_own _ rfl _ _ 26 rfl (bP + 1) 38 i0 (.agg #[.int .i64 0, .int .i64 0, .int .i64 0, .int .i64 0, .int .i64 0, .int .i64 0]) 6 48 Try.underlying26 hi hz0 hz1 hz2 rfl (by decide) _ _ _ rfl (HO.out.alloc _) ⟨w2.heap.size, 0, none⟩ 1 1 [.int .i64 ((m : Int) + 1 + (n : Int)), .int .i64 day, .int .i64 frm, .int .i64 tt, .int .i64 x, .int .i64 0] rfl rfl (new_cells _ _ _ _ rfl) (entF.one ⟨_, _, _, _, _, _⟩) (by unfold maxLen; omega) (by omega) (by have := obj_lt HQ.out; simp; omega) ?_; intro v' w5 hown5 hgr5 _; (obtain ⟨a5, c5, rfl, _, _⟩ := owns_gen hown5); (have h6 := (hgr5.block bP (by have := obj_lt HQ.out; simp; omega) (by intro e; have := ownBlock_le HO.out _ e.symm; omega)).trans (obj_below HQ.out (below_alloc w2 _))); (have z0 := obj_cell h6 0); (have z1 := obj_free h6 0); (simp at z0); (obtain ⟨q1, q2⟩ := HFIN.out _ _ hgr5 hown5); (have Q1 := Lib.hid q1); (have Q2 := Lib.hid q2); clear q1 q2 h6)
  go_wp2
  go_end0
  exact ⟨rfl, Q1.out, Q2.out⟩


theorem balOf_range {a : Acc} (h : checkM a = 0) (x : Int) : -1000000000000 ≤ balOf a.subs x ∧ balOf a.subs x ≤ 1000000000000000 := by
  have hpl := (checkM_zero.1 h).2.2.1
  unfold plainM at hpl
  simp only [Bool.and_eq_true] at hpl
  have hb := bals_wide hpl.1 (right_bals h)
  unfold balOf
  cases hx : atS a.subs x with
  | none => simp
  | some i =>
    have := (atS_some hx).1
    have h2 := hb _ (List.getElem_mem this)
    rw [← subAt_get this] at h2
    exact h2
theorem planM_ok {a : Acc} {ks : List Kp} {day : Int} {es : List Ent} (h : planM a ks day = .ok es) : checkM a = 0 ∧ keepsB a.subs 0 true ks = true ∧ (lastE a.ents).day ≤ day ∧ day ≤ 36000 ∧ a.ents.length + (planS a.subs day a.ents.length ks).1.length ≤ 400 ∧ es = (planS a.subs day a.ents.length ks).1 := by
  unfold planM at h
  split at h
  · cases h
  · rename_i h1
    split at h
    · cases h
    · rename_i h2
      split at h
      · cases h
      · rename_i h3
        injection h with h
        unfold swCheckM at h1
        by_cases hc : checkM a = 0
        · refine ⟨hc, ?_, by omega, by omega, by omega, h.symm⟩
          cases hk : keepsB a.subs 0 true ks with
          | true => rfl
          | false => rw [hc, hk] at h1; simp at h1
        · rw [if_pos hc] at h1
          simp at h1
          exact absurd h1 hc

/-- What Plan hands back. -/
def PlanPost (w : World) (es : List Ent) (e : Ending) (w' : World) : Prop := ∃ ao cap, e = .returned (.tuple #[.slice ao es.length cap, .int .i64 0]) ∧ w'.ownsRow w.heap.size 38 6 (.slice ao es.length cap) es.length (cellsN es) ∧ Below w.heap.size w w'

set_option maxRecDepth 100000 in
set_option maxHeartbeats 16000000 in
theorem swPlan_right (a : Acc) (ks : List Kp) (su en kv : Value) (day : Int) (es : List Ent) (w : World) (h : SubsAt w su a.subs) (he : EntsAt w en a.ents) (hk : KeepsAt w kv ks) (hkl : ks.length ≤ 1000) (hp : planM a ks day = .ok es) :
    Calls Try.prog 21 #[.agg #[.int .i64 a.credit, su, en], kv, .int .i64 day] w (PlanPost w es) := by
  obtain ⟨hr, hks, hd1, hd2, h400, rfl⟩ := planM_ok hp
  have hz := checkM_zero.1 hr
  have HCK := Lib.hid (fun W (hW : Below w.heap.size w W) => swCheck_right a ks su en kv W (h.below hW) (he.below hW) (hk.below hW) hkl hr hks)
  have HBLQ := Lib.hid (fun id (hid : (atS a.subs id).isSome = true) W (hW : Below w.heap.size w W) => swbalance_any a su en id W (h.below hW) (by omega) hid)
  have HLQ := Lib.hid (fun W (hW : Below w.heap.size w W) => swlastDay_any a.ents a.credit su en W (he.below hW) (by omega))
  have HEN := Lib.hid (fun W (hW : Below w.heap.size w W) => he.below hW)
  have HBL := Lib.hid (balOf_range hr)
  have hmain := balOf_range hr 1
  have HONE : Hid ((atS a.subs 1).isSome = true) := Lib.hid (by rw [right_one hr]; rfl)
  obtain ⟨ao, cap, rfl, hcap, hcs⟩ := hk.open
  have HCS := Lib.hid hcs
  obtain ⟨n, hn⟩ : ∃ n, n = ks.length := ⟨_, rfl⟩
  have HN := Lib.hid hn
  have HKS := Lib.hid hks
  have HR := Lib.hid hr
  obtain ⟨m, hm⟩ : ∃ m, m = a.ents.length := ⟨_, rfl⟩
  have HM := Lib.hid hm
  obtain ⟨aE, cE, rfl, hcE, -⟩ := ListAt.shape entF (ents_list.1 he)
  have hm4 : m ≤ 400 := by rw [hm]; exact hz.2.1
  obtain ⟨en, hen⟩ : ∃ en : Value, en = .slice aE a.ents.length cE := ⟨_, rfl⟩
  rw [← hen] at HCK HBLQ HLQ HEN ⊢
  rw [← hn] at hcap hkl HCK ⊢
  have HEE : Hid (en = .slice aE m cE) := Lib.hid (by rw [hen, hm])
  obtain ⟨ld, hld⟩ : ∃ ld, ld = (lastE a.ents).day := ⟨_, rfl⟩
  rw [← hld] at HLQ hd1
  have hq1 : ¬ day < ld := by omega
  have hq2 : ¬ (36000 : Int) < day := by omega
  obtain ⟨bA, hbA⟩ : ∃ bA, bA = w.heap.size := ⟨_, rfl⟩
  obtain ⟨bD, hbD⟩ : ∃ bD, bD = w.heap.size + 1 := ⟨_, rfl⟩
  obtain ⟨w0, hw0⟩ : ∃ w0, w0 = (w.alloc (.cells #[.int .i64 a.credit, su, en] 28)).alloc (.cells #[.int .i64 day] 3) := ⟨_, rfl⟩
  have HX0 : Hid (w0.heap[bA]? = some (.cells #[.int .i64 a.credit, su, en] 28 (0, 0))) := Lib.hid (by rw [hw0, hbA]; exact alloc1_at w _ _)
  have HY0 : Hid (w0.heap[bD]? = some (.cells #[.int .i64 day] 3 (0, 0))) := Lib.hid (by rw [hw0, hbD]; exact alloc2_at w _ _)
  have HB0 : Hid (Below w.heap.size w w0) := Lib.hid (by rw [hw0]; exact below2 w _ _)
  have hbAD : bA < bD := by omega
  have HLA : Hid (w.heap.size ≤ bA ∧ w.heap.size ≤ bD) := Lib.hid (by omega)
  clear hn hcs h he hk hz hr hks hp hm hld hd1 hen
  go_enter Try.func21, Try.ntmps21
  go_upto_region 1 with fail
  rw [← hw0, ← hbD, ← hbA]
  clear hw0 hbD hbA
  have u0 := obj_cell HX0.out 0
  have u1 := obj_cell HX0.out 1
  have u2 := obj_cell HX0.out 2
  simp at u0 u1 u2
  go_wp2_with fail
  refine (HCK.out _ HB0.out).mono ?_
  rintro e w1 ⟨rfl, hb1⟩
  have HB1 := Lib.hid (HB0.out.trans (hb1.mono HB0.out.size))
  have HX1 := Lib.hid (obj_below HX0.out hb1)
  have HY1 := Lib.hid (obj_below HY0.out hb1)
  clear hb1 u0 u1 u2 HX0 HY0 HB0 HCK
  go_upto_region 4 with fail
  obtain ⟨J, hJ⟩ : ∃ J, J = fun W : World => Below w1.heap.size w1 W := ⟨_, rfl⟩
  have HJO : Hid (∀ W, J W → Below w1.heap.size w1 W) := Lib.hid fun W hW => by rw [hJ] at hW; exact hW
  have HJI : Hid (∀ W, Below w1.heap.size w1 W → J W) := Lib.hid fun W hW => by rw [hJ]; exact hW
  have HJD : Hid (∀ W, J W → J W.drew) := Lib.hid fun W hW => HJI.out _ ((HJO.out W hW).drew)
  have HJ0 : Hid (J w1) := Lib.hid (HJI.out _ (Below.refl _ _))
  have HJW : Hid (∀ W, J W → Below w.heap.size w W) := Lib.hid fun W hW => HB1.out.trans ((HJO.out W hW).mono HB1.out.size)
  have HCL : Hid (∀ W, J W → ∀ j, W.cell? ⟨bA, j, none⟩ = #[.int .i64 a.credit, su, en][j]?) := Lib.hid fun W hW j => obj_cell (obj_below HX1.out (HJO.out W hW)) j
  have HDY : Hid (∀ W, J W → ∀ j, W.cell? ⟨bD, j, none⟩ = #[.int .i64 day][j]?) := Lib.hid fun W hW j => obj_cell (obj_below HY1.out (HJO.out W hW)) j
  have HLD : Hid (∀ W, J W → Calls Try.prog 59 #[.agg #[.int .i64 a.credit, su, en]] W fun e w' => e = .returned (.int .i64 ld) ∧ J w') := Lib.hid fun W hW =>
    (HLQ.out W (HJW.out W hW)).mono fun e w' g => ⟨g.1, HJI.out _ ((HJO.out W hW).trans (g.2.mono (HJO.out W hW).size))⟩
  have egL := enters_of Try.func59 (by kernel_rfl) rfl
  clear hJ
  go_cut [31] (fun c wx => c = .bool false ∧ Hid (J wx))
  case first =>
    refine wp_region_props [24, 25, 26, 27, 28, 29, 30, 31] (slotS [24, 25, 26, 27, 28, 29, 30, 31]) (readsS [24, 25, 26, 27, 28, 29, 30, 31]) (RTs [24, 25, 26, 27, 28, 29, 30, 31] [.int .i64 day, .agg #[.int .i64 a.credit, su, en], .int .i64 ld, .bool false, .bool false, .int .i64 day, .bool false, .bool false]) J (by kernel_rfl) (by kernel_rfl) (by kernel_rfl) (HJD.out _ HJ0.out) (fun j f q v W hq h => RTs.upd hq h) ?_ ?_
    case refine_1 =>
      intro iq hiq f W hIW hdep
      have hiq' : iq < 8 := hiq
      generalize ha1 : putsL _ [24, 25, 26, 27, 28, 29, 30, 31] f = a1
      match iq, hiq', hdep with
      | 0, _, hdep =>
        have E5 : a1.tmps[5]?.getD undef = .pointer (some ⟨bD, 0, none⟩) := by rw [← ha1]; exact (putsL_out2 _ _ _ _ (by decide)).trans rfl
        have v0 : W.cell? ⟨bD, 0, none⟩ = some (.int .i64 day) := by simpa using HDY.out W hIW 0
        exact wpOp_val rfl rfl (v := .int .i64 day) (w' := W) (by simp [execOp, go_sem, E5, v0]) ⟨hIW, fun _ h => h, Or.inl ⟨_, by decide, rfl, updF_same _ _ _⟩⟩
      | 1, _, hdep =>
        have E3 : a1.tmps[3]?.getD undef = .pointer (some ⟨bA, 0, none⟩) := by rw [← ha1]; exact (putsL_out2 _ _ _ _ (by decide)).trans rfl
        have v0 : W.cell? ⟨bA, 0, none⟩ = some (.int .i64 a.credit) := by simpa using HCL.out W hIW 0
        have v1 : W.cell? ⟨bA, 1, none⟩ = some (su) := by simpa using HCL.out W hIW 1
        have v2 : W.cell? ⟨bA, 2, none⟩ = some (en) := by simpa using HCL.out W hIW 2
        exact wpOp_val rfl rfl (v := .agg #[.int .i64 a.credit, su, en]) (w' := W) (by simp [execOp, go_sem, E3, v0, v1, v2]) ⟨hIW, fun _ h => h, Or.inl ⟨_, by decide, rfl, updF_same _ _ _⟩⟩
      | 2, _, hdep =>
        have E25 : a1.tmps[25]?.getD undef = .agg #[.int .i64 a.credit, su, en] := by rw [← ha1]; exact (putsL_in2 _ _ _ _ (by decide) (show 25 < 94 from by decide)).trans (hdep 1 (by kernel_rfl))
        refine wpOp_call rfl rfl (n := 59) (vs := #[.agg #[.int .i64 a.credit, su, en]]) (by have := egL #[.agg #[.int .i64 a.credit, su, en]] W; simp [execOp, E25, resolve, invoke, go_sem] <;> exact this) ((HLD.out W hIW).mono fun e w' h => (⟨_, h.1, rfl, h.2⟩ : ∃ v, e = .returned v ∧ (v = .int .i64 ld ∧ J w'))) ?_
        rintro v w' ⟨rfl, hI'⟩
        exact ⟨hI', fun _ h => h, Or.inl ⟨_, by decide, rfl, updF_same _ _ _⟩⟩
      | 3, _, hdep =>
        have E24 : a1.tmps[24]?.getD undef = .int .i64 day := by rw [← ha1]; exact (putsL_in2 _ _ _ _ (by decide) (show 24 < 94 from by decide)).trans (hdep 0 (by kernel_rfl))
        have E26 : a1.tmps[26]?.getD undef = .int .i64 ld := by rw [← ha1]; exact (putsL_in2 _ _ _ _ (by decide) (show 26 < 94 from by decide)).trans (hdep 2 (by kernel_rfl))
        exact wpOp_val rfl rfl (v := .bool false) (w' := W) (by simp [execOp, go_sem, E24, E26, hq1]) ⟨hIW, fun _ h => h, Or.inl ⟨_, by decide, rfl, updF_same _ _ _⟩⟩
      | 4, _, hdep =>
        have E27 : a1.tmps[27]?.getD undef = .bool false := by rw [← ha1]; exact (putsL_in2 _ _ _ _ (by decide) (show 27 < 94 from by decide)).trans (hdep 3 (by kernel_rfl))
        exact wpOp_val rfl rfl (v := .bool false) (w' := W) (by simp [execOp, go_sem, E27]) ⟨hIW, fun _ h => h, Or.inl ⟨_, by decide, rfl, updF_same _ _ _⟩⟩
      | 5, _, hdep =>
        have G4 : a1.tmps[28]? = some (.bool false) := by rw [← ha1]; exact (putsL_some _ _ _ _ (by decide) (show 28 < 94 from by decide)).trans (congrArg some (hdep 4 (by kernel_rfl)))
        have E5 : a1.tmps[5]?.getD undef = .pointer (some ⟨bD, 0, none⟩) := by rw [← ha1]; exact (putsL_out2 _ _ _ _ (by decide)).trans rfl
        have v0 : W.cell? ⟨bD, 0, none⟩ = some (.int .i64 day) := by simpa using HDY.out W hIW 0
        exact wpOp_valG rfl rfl (yielded_of rfl G4) (v := .int .i64 day) (w' := W) (by simp [execOp, go_sem, E5, v0]) ⟨hIW, fun _ h => h, Or.inl ⟨_, by decide, rfl, updF_same _ _ _⟩⟩
      | 6, _, hdep =>
        have G4 : a1.tmps[28]? = some (.bool false) := by rw [← ha1]; exact (putsL_some _ _ _ _ (by decide) (show 28 < 94 from by decide)).trans (congrArg some (hdep 4 (by kernel_rfl)))
        have E29 : a1.tmps[29]?.getD undef = .int .i64 day := by rw [← ha1]; exact (putsL_in2 _ _ _ _ (by decide) (show 29 < 94 from by decide)).trans (hdep 5 (by kernel_rfl))
        exact wpOp_valG rfl rfl (yielded_of rfl G4) (v := .bool false) (w' := W) (by simp [execOp, go_sem, E29, hq2]) ⟨hIW, fun _ h => h, Or.inl ⟨_, by decide, rfl, updF_same _ _ _⟩⟩
      | 7, _, hdep =>
        have E28 : a1.tmps[28]?.getD undef = .bool false := by rw [← ha1]; exact (putsL_in2 _ _ _ _ (by decide) (show 28 < 94 from by decide)).trans (hdep 4 (by kernel_rfl))
        have E30 : a1.tmps[30]?.getD undef = .bool false := by rw [← ha1]; exact (putsL_in2 _ _ _ _ (by decide) (show 30 < 94 from by decide)).trans (hdep 6 (by kernel_rfl))
        exact wpOp_val rfl rfl (v := .bool false) (w' := W) (by simp [execOp, go_sem, E28, E30]) ⟨hIW, fun _ h => h, Or.inl ⟨_, by decide, rfl, updF_same _ _ _⟩⟩
      | iq + 8, h, _ => exact absurd h (by omega)
    case refine_2 =>
      intro f W hIW hR
      have h31 : f 31 = .bool false := hR 7 (show 7 < 8 from by decide)
      simp only [putsL, List.foldl_cons, List.foldl_nil, Act.put, List.setIfInBounds_toArray, List.set_cons_zero, List.set_cons_succ]
      go_wp2
      go_meet
      exact ⟨(by first | rfl | exact h31), Lib.hid hIW⟩
  case rest =>
  obtain ⟨rfl, HJC⟩ := hcut
  have HX2 := Lib.hid (obj_below HX1.out (HJO.out _ HJC.out))
  have HY2 := Lib.hid (obj_below HY1.out (HJO.out _ HJC.out))
  have HB2 := Lib.hid (HJW.out _ HJC.out)
  have hsz := obj_lt HY2.out
  clear HJ0 HJD HJI HJO HJW HCL HDY HLD HJC HX1 HY1 HB1
  go_upto_region 8 with fail
  obtain ⟨bP, hbP⟩ : ∃ bP, bP = wc.heap.size := ⟨_, rfl⟩
  obtain ⟨w3, hw3⟩ : ∃ w3, w3 = wc.alloc (.cells #[.slice none 0 0] 26) := ⟨_, rfl⟩
  have HP3 : Hid (PI w bA bD bP a su en day [] w3) := Lib.hid (by
    rw [hw3, hbP]
    exact ⟨HB2.out.alloc HB2.out.size _, obj_below HX2.out (below_alloc _ _), obj_below HY2.out (below_alloc _ _), ⟨none, 0, heap_alloc_new _ _, World.ownsRow_nil _ _ _ _⟩, HLA.out.1, HLA.out.2, by omega, by omega⟩)
  rw [← hbP, ← hw3]
  have u0 := obj_cell HP3.out.box 0
  have u1 := obj_cell HP3.out.box 1
  have u2 := obj_cell HP3.out.box 2
  simp at u0 u1 u2
  have HMQ := Lib.hid (HBLQ.out 1 HONE.out)
  clear hbP hw3 HX2 HY2 HB2 hsz
  go_wp2_with fail
  refine (HMQ.out _ HP3.out.old).mono ?_
  rintro e w9 ⟨rfl, hb9⟩
  have HP9 := Lib.hid (HP3.out.below hb9)
  clear hb9 HP3 u0 u1 u2 HMQ
  go_wp2
  go_loopw [11, 37] (fun hv iv wr => ∃ (k : Nat) (s : PS) (hs : Int), hv = .int .i64 hs ∧ iv = .int .i64 k ∧ Hid (hs = s.2) ∧ k ≤ n ∧ Hid (s = (ks.take k).foldl (upStep a.subs day a.ents.length) ([], balOf a.subs 1)) ∧ Hid (PI w bA bD bP a su en day s.1 wr) ∧ s.1.length ≤ k ∧ -1000000000000 ≤ hs ∧ hs ≤ 1000000000000000 + 1000000000000 * (k : Int)) (fun _ iv _ => n - (RowKit.intOf iv).toNat)
  case atStart => exact ⟨0, ([], balOf a.subs 1), balOf a.subs 1, rfl, rfl, Lib.hid rfl, by omega, Lib.hid rfl, HP9, by simp, by omega, by omega⟩
  case round =>
    obtain ⟨k, s, hs, rfl, rfl, hhs, hkn, HSS, HPP, hln, hlo, hhi⟩ := hrel
    by_cases hlt : k < n
    · have hkl' : k < ks.length := by rw [← HN.out]; exact hlt
      obtain ⟨b, o, rfl, hb, hcc⟩ := HCS.out (by omega)
      have hcell := fun j (hj : j < 3) => (HPP.out.old.cell (p := ⟨b, o + k * 3 + j, none⟩) hb).trans (hcc k hkl' j hj)
      obtain ⟨q1, q2, q3, q4, q5⟩ := keepsB_get HKS.out hkl'
      have hbq0 := right_nonneg HR.out q2
      have hbq1 := HBL.out (keepAt ks k).sub
      have HST : Hid ((ks.take (k + 1)).foldl (upStep a.subs day a.ents.length) ([], balOf a.subs 1) = upStep a.subs day a.ents.length s (keepAt ks k)) := Lib.hid (by
        rw [List.take_succ_eq_append_getElem hkl', List.foldl_append, ← HSS.out, keepAt_get hkl']
        rfl)
      have HBX := Lib.hid (HBLQ.out (keepAt ks k).sub q1)
      generalize keepAt ks k = x at *
      obtain ⟨x0, x1, x2⟩ := x
      simp only at q1 q2 q3 q4 q5 hbq0 hbq1 HBX
      have c0 := hcell 0 (by omega)
      have c1 := hcell 1 (by omega)
      have c2 := hcell 2 (by omega)
      simp [kpC] at c0 c1 c2
      obtain ⟨bq, hbq⟩ : ∃ bq, bq = balOf a.subs x0 := ⟨_, rfl⟩
      obtain ⟨mn, hmn0⟩ : ∃ mn, mn = upX a.subs ⟨x0, x1, x2⟩ := ⟨_, rfl⟩
      have hmn : (if 1000000000000 < bq - x2 then 1000000000000 else bq - x2) = mn := by rw [hmn0, hbq]; unfold upX; simp only; split <;> omega
      rw [← hbq] at hbq0 hbq1 HBX
      have HBQE := Lib.hid hbq
      have HMN := Lib.hid hmn0
      have hk0 : (0 : Int) ≤ (k : Int) := by omega
      have hk1 : (k : Int) < (n : Int) := by omega
      have hwr : IntKind.i64.wrap (bq - x2) = bq - x2 := IntWalk.i64_in _ (by omega)
      clear hcell hcc q1 hkl' hbq hmn0
      go_upto_region 12 with fail
      obtain ⟨w6, hw6⟩ : ∃ w6, w6 = wr.alloc (.cells #[.int .i64 x0, .int .i64 x1, .int .i64 x2] 50) := ⟨_, rfl⟩
      obtain ⟨bK, hbK⟩ : ∃ bK, bK = wr.heap.size := ⟨_, rfl⟩
      have HK6 : Hid (w6.heap[bK]? = some (.cells #[.int .i64 x0, .int .i64 x1, .int .i64 x2] 50 (0, 0))) := Lib.hid (by rw [hw6, hbK]; exact heap_alloc_new wr _)
      have HP6 : Hid (PI w bA bD bP a su en day s.1 w6) := Lib.hid (by rw [hw6]; exact HPP.out.below (below_alloc _ _))
      rw [← hw6, ← hbK]
      obtain ⟨J, hJ⟩ : ∃ J, J = fun W : World => Below w6.heap.size w6 W := ⟨_, rfl⟩
      have HJO : Hid (∀ W, J W → Below w6.heap.size w6 W) := Lib.hid fun W hW => by rw [hJ] at hW; exact hW
      have HJI : Hid (∀ W, Below w6.heap.size w6 W → J W) := Lib.hid fun W hW => by rw [hJ]; exact hW
      have HJD : Hid (∀ W, J W → J W.drew) := Lib.hid fun W hW => HJI.out _ ((HJO.out W hW).drew)
      have HJ0 : Hid (J w6) := Lib.hid (HJI.out _ (Below.refl _ _))
      have HPW : Hid (∀ W, J W → PI w bA bD bP a su en day s.1 W) := Lib.hid fun W hW => HP6.out.below (HJO.out W hW)
      have HCL : Hid (∀ W, J W → ∀ j, W.cell? ⟨bA, j, none⟩ = #[.int .i64 a.credit, su, en][j]?) := Lib.hid fun W hW j => obj_cell (HPW.out W hW).box j
      have HCK : Hid (∀ W, J W → ∀ j, W.cell? ⟨bK, j, none⟩ = #[.int .i64 x0, .int .i64 x1, .int .i64 x2][j]?) := Lib.hid fun W hW j => obj_cell (obj_below HK6.out (HJO.out W hW)) j
      have HBQ : Hid (∀ W, J W → Calls Try.prog 58 #[.agg #[.int .i64 a.credit, su, en], .int .i64 x0] W fun e w' => e = .returned (.int .i64 bq) ∧ J w') := Lib.hid fun W hW =>
        (HBX.out W (HPW.out W hW).old).mono fun e w' g => ⟨g.1, HJI.out _ ((HJO.out W hW).trans (g.2.mono (HJO.out W hW).size))⟩
      have egB := enters_of Try.func58 (by kernel_rfl) rfl
      clear hJ hw6 hbK c0 c1 c2
      go_cut [14] (fun c wx => c = .int .i64 mn ∧ Hid (J wx))
      case first =>
        refine wp_region_props [41, 42, 43, 44, 45, 46, 47, 48, 14] (slotS [41, 42, 43, 44, 45, 46, 47, 48, 14]) (readsS [41, 42, 43, 44, 45, 46, 47, 48, 14]) (RTs [41, 42, 43, 44, 45, 46, 47, 48, 14] [.agg #[.int .i64 a.credit, su, en], .pointer (some ⟨bK, 0, none⟩), .int .i64 x0, .int .i64 bq, .pointer (some ⟨bK, 2, none⟩), .int .i64 x2, .int .i64 (bq - x2), .int .i64 mn, .int .i64 mn]) J (by kernel_rfl) (by kernel_rfl) (by kernel_rfl) (HJD.out _ HJ0.out) (fun j f q v W hq h => RTs.upd hq h) ?_ ?_
        case refine_1 =>
          intro iq hiq f W hIW hdep
          have hiq' : iq < 9 := hiq
          generalize ha1 : putsL _ [41, 42, 43, 44, 45, 46, 47, 48, 14] f = a1
          match iq, hiq', hdep with
          | 0, _, hdep =>
            have E3 : a1.tmps[3]?.getD undef = .pointer (some ⟨bA, 0, none⟩) := by rw [← ha1]; exact (putsL_out2 _ _ _ _ (by decide)).trans rfl
            have v0 : W.cell? ⟨bA, 0, none⟩ = some (.int .i64 a.credit) := by simpa using HCL.out W hIW 0
            have v1 : W.cell? ⟨bA, 1, none⟩ = some (su) := by simpa using HCL.out W hIW 1
            have v2 : W.cell? ⟨bA, 2, none⟩ = some (en) := by simpa using HCL.out W hIW 2
            exact wpOp_val rfl rfl (v := .agg #[.int .i64 a.credit, su, en]) (w' := W) (by simp [execOp, go_sem, E3, v0, v1, v2]) ⟨hIW, fun _ h => h, Or.inl ⟨_, by decide, rfl, updF_same _ _ _⟩⟩
          | 1, _, hdep =>
            have E13 : a1.tmps[13]?.getD undef = .pointer (some ⟨bK, 0, none⟩) := by rw [← ha1]; exact (putsL_out2 _ _ _ _ (by decide)).trans rfl
            exact wpOp_val rfl rfl (v := .pointer (some ⟨bK, 0, none⟩)) (w' := W) (by simp [execOp, go_sem, E13]) ⟨hIW, fun _ h => h, Or.inl ⟨_, by decide, rfl, updF_same _ _ _⟩⟩
          | 2, _, hdep =>
            have E42 : a1.tmps[42]?.getD undef = .pointer (some ⟨bK, 0, none⟩) := by rw [← ha1]; exact (putsL_in2 _ _ _ _ (by decide) (show 42 < 94 from by decide)).trans (hdep 1 (by kernel_rfl))
            have v0 : W.cell? ⟨bK, 0, none⟩ = some (.int .i64 x0) := by simpa using HCK.out W hIW 0
            exact wpOp_val rfl rfl (v := .int .i64 x0) (w' := W) (by simp [execOp, go_sem, E42, v0]) ⟨hIW, fun _ h => h, Or.inl ⟨_, by decide, rfl, updF_same _ _ _⟩⟩
          | 3, _, hdep =>
            have E41 : a1.tmps[41]?.getD undef = .agg #[.int .i64 a.credit, su, en] := by rw [← ha1]; exact (putsL_in2 _ _ _ _ (by decide) (show 41 < 94 from by decide)).trans (hdep 0 (by kernel_rfl))
            have E43 : a1.tmps[43]?.getD undef = .int .i64 x0 := by rw [← ha1]; exact (putsL_in2 _ _ _ _ (by decide) (show 43 < 94 from by decide)).trans (hdep 2 (by kernel_rfl))
            refine wpOp_call rfl rfl (n := 58) (vs := #[.agg #[.int .i64 a.credit, su, en], .int .i64 x0]) (by have := egB #[.agg #[.int .i64 a.credit, su, en], .int .i64 x0] W; simp [execOp, E41, E43, resolve, invoke, go_sem] <;> exact this) ((HBQ.out W hIW).mono fun e w' h => (⟨_, h.1, rfl, h.2⟩ : ∃ v, e = .returned v ∧ (v = .int .i64 bq ∧ J w'))) ?_
            rintro v w' ⟨rfl, hI'⟩
            exact ⟨hI', fun _ h => h, Or.inl ⟨_, by decide, rfl, updF_same _ _ _⟩⟩
          | 4, _, hdep =>
            have E13 : a1.tmps[13]?.getD undef = .pointer (some ⟨bK, 0, none⟩) := by rw [← ha1]; exact (putsL_out2 _ _ _ _ (by decide)).trans rfl
            exact wpOp_val rfl rfl (v := .pointer (some ⟨bK, 2, none⟩)) (w' := W) (by simp [execOp, go_sem, E13]) ⟨hIW, fun _ h => h, Or.inl ⟨_, by decide, rfl, updF_same _ _ _⟩⟩
          | 5, _, hdep =>
            have E45 : a1.tmps[45]?.getD undef = .pointer (some ⟨bK, 2, none⟩) := by rw [← ha1]; exact (putsL_in2 _ _ _ _ (by decide) (show 45 < 94 from by decide)).trans (hdep 4 (by kernel_rfl))
            have v2 : W.cell? ⟨bK, 2, none⟩ = some (.int .i64 x2) := by simpa using HCK.out W hIW 2
            exact wpOp_val rfl rfl (v := .int .i64 x2) (w' := W) (by simp [execOp, go_sem, E45, v2]) ⟨hIW, fun _ h => h, Or.inl ⟨_, by decide, rfl, updF_same _ _ _⟩⟩
          | 6, _, hdep =>
            have E44 : a1.tmps[44]?.getD undef = .int .i64 bq := by rw [← ha1]; exact (putsL_in2 _ _ _ _ (by decide) (show 44 < 94 from by decide)).trans (hdep 3 (by kernel_rfl))
            have E46 : a1.tmps[46]?.getD undef = .int .i64 x2 := by rw [← ha1]; exact (putsL_in2 _ _ _ _ (by decide) (show 46 < 94 from by decide)).trans (hdep 5 (by kernel_rfl))
            exact wpOp_val rfl rfl (v := .int .i64 (bq - x2)) (w' := W) (by simp [execOp, go_sem, E44, E46, hwr]) ⟨hIW, fun _ h => h, Or.inl ⟨_, by decide, rfl, updF_same _ _ _⟩⟩
          | 7, _, hdep =>
            have E47 : a1.tmps[47]?.getD undef = .int .i64 (bq - x2) := by rw [← ha1]; exact (putsL_in2 _ _ _ _ (by decide) (show 47 < 94 from by decide)).trans (hdep 6 (by kernel_rfl))
            exact wpOp_val rfl rfl (v := .int .i64 mn) (w' := W) (by simp [execOp, go_sem, E47, hmn]) ⟨hIW, fun _ h => h, Or.inl ⟨_, by decide, rfl, updF_same _ _ _⟩⟩
          | 8, _, hdep =>
            have E48 : a1.tmps[48]?.getD undef = .int .i64 mn := by rw [← ha1]; exact (putsL_in2 _ _ _ _ (by decide) (show 48 < 94 from by decide)).trans (hdep 7 (by kernel_rfl))
            exact wpOp_val rfl rfl (v := .int .i64 mn) (w' := W) (by simp [execOp, go_sem, E48]) ⟨hIW, fun _ h => h, Or.inl ⟨_, by decide, rfl, updF_same _ _ _⟩⟩
          | iq + 9, h, _ => exact absurd h (by omega)
        case refine_2 =>
          intro f W hIW hR
          have h14 : f 14 = .int .i64 mn := hR 8 (show 8 < 9 from by decide)
          simp only [putsL, List.foldl_cons, List.foldl_nil, Act.put, List.setIfInBounds_toArray, List.set_cons_zero, List.set_cons_succ]
          go_wp2
          go_meet
          exact ⟨(by first | rfl | exact h14), Lib.hid hIW⟩
      case rest =>
        obtain ⟨rfl, HJW⟩ := hcut
        have HPC := Lib.hid (HPW.out _ HJW.out)
        have k0 := HCK.out _ HJW.out 0
        simp at k0
        clear HJ0 HJD HJI HJO HCL HCK HBQ HPW HJW HP6 HK6 HPP hmn hwr
        by_cases hpos : 0 < mn
        · have HC : Hid (Calls Try.prog 60 #[.int .i64 x0, .int .i64 1, .int .i64 mn, .pointer (some ⟨bA, 0, none⟩), .pointer (some ⟨bD, 0, none⟩), .pointer (some ⟨bP, 0, none⟩)] wc fun e w' => e = .returned (.tuple #[]) ∧ PI w bA bD bP a su en day (s.1 ++ [⟨a.ents.length + 1 + s.1.length, day, x0, 1, mn, 0⟩]) w' ∧ wc.heap.size ≤ w'.heap.size) := Lib.hid (swPlanC_any x0 1 mn HPC.out (HEN.out wc HPC.out.old) HR.out (by omega))
          have HNX : Hid (upStep a.subs day a.ents.length s ⟨x0, x1, x2⟩ = (s.1 ++ [⟨a.ents.length + 1 + s.1.length, day, x0, 1, mn, 0⟩], s.2 + mn)) := Lib.hid (by
            unfold upStep
            skip
            rw [← HMN.out]
            exact if_pos hpos)
          have hmb : mn ≤ 1000000000000 ∧ 0 < mn := by have := HMN.out; unfold upX at this; simp only at this; rw [← HBQE.out] at this; omega
          go_wp2_with fail
          refine (HC.out).mono ?_
          rintro e w7 ⟨rfl, hp7, -⟩
          have HP7 := Lib.hid hp7
          clear hp7 k0
          go_wp2
          go_roundw
          case rel => exact ⟨k + 1, upStep a.subs day a.ents.length s ⟨x0, x1, x2⟩, hs + mn, rfl, (by first | rfl | go_num), Lib.hid (by rw [HNX.out]; simp only; rw [← hhs.out]), by omega, Lib.hid HST.out.symm, Lib.hid (by rw [HNX.out]; exact HP7.out), by rw [HNX.out]; simp; omega, by omega, by omega⟩
          case measure => simp [RowKit.intOf]; omega
        · have HNX : Hid (upStep a.subs day a.ents.length s ⟨x0, x1, x2⟩ = s) := Lib.hid (by
            unfold upStep
            skip
            rw [← HMN.out]
            exact if_neg hpos)
          clear k0
          go_wp2
          go_roundw
          case rel => exact ⟨k + 1, s, hs, rfl, (by first | rfl | go_num), hhs, by omega, Lib.hid (HNX.out.symm.trans HST.out.symm), HPC, by omega, by omega, by omega⟩
          case measure => simp [RowKit.intOf]; omega
    · obtain rfl : n = k := by omega
      rw [show ks.take n = ks by rw [HN.out, List.take_length]] at HSS
      have H9S := Lib.hid hhs.out
      have H9E : Hid (s = (ks.take 0).foldl (downStep a.subs day a.ents.length) (upS a.subs day a.ents.length ks)) := Lib.hid (by rw [List.take_zero]; exact HSS.out)
      have HP9' := Lib.hid HPP.out
      clear hhs HSS HPP HP9
      go_wp2
      go_loopw [11, 62] (fun hv iv wr => ∃ (k : Nat) (s : PS) (hs : Int), hv = .int .i64 hs ∧ iv = .int .i64 k ∧ Hid (hs = s.2) ∧ k ≤ n ∧ Hid (s = (ks.take k).foldl (downStep a.subs day a.ents.length) (upS a.subs day a.ents.length ks)) ∧ Hid (PI w bA bD bP a su en day s.1 wr) ∧ s.1.length ≤ n + k ∧ -1000000000000 ≤ hs ∧ hs ≤ 1000000000000000 + 1000000000000 * 1000) (fun _ iv _ => n - (RowKit.intOf iv).toNat)
      case atStart => exact ⟨0, s, hs, rfl, rfl, H9S, by omega, H9E, HP9', by omega, by omega, by omega⟩
      case round =>
        clear H9S H9E HP9'
        obtain ⟨k, s, hs, rfl, rfl, hhs, hkn, HSS, HPP, hln, hlo, hhi⟩ := hrel
        by_cases hlt : k < n
        · have hkl' : k < ks.length := by rw [← HN.out]; exact hlt
          obtain ⟨b, o, rfl, hb, hcc⟩ := HCS.out (by omega)
          have hcell := fun j (hj : j < 3) => (HPP.out.old.cell (p := ⟨b, o + k * 3 + j, none⟩) hb).trans (hcc k hkl' j hj)
          obtain ⟨q1, q2, q3, q4, q5⟩ := keepsB_get HKS.out hkl'
          have hbq0 := right_nonneg HR.out q2
          have hbq1 := HBL.out (keepAt ks k).sub
          have HST : Hid ((ks.take (k + 1)).foldl (downStep a.subs day a.ents.length) (upS a.subs day a.ents.length ks) = downStep a.subs day a.ents.length s (keepAt ks k)) := Lib.hid (by
            rw [List.take_succ_eq_append_getElem hkl', List.foldl_append, ← HSS.out, keepAt_get hkl']
            rfl)
          have HBX := Lib.hid (HBLQ.out (keepAt ks k).sub q1)
          generalize keepAt ks k = x at *
          obtain ⟨x0, x1, x2⟩ := x
          simp only at q1 q2 q3 q4 q5 hbq0 hbq1 HBX
          have c0 := hcell 0 (by omega)
          have c1 := hcell 1 (by omega)
          have c2 := hcell 2 (by omega)
          simp [kpC] at c0 c1 c2
          obtain ⟨bq, hbq⟩ : ∃ bq, bq = balOf a.subs x0 := ⟨_, rfl⟩
          obtain ⟨mn, hmn0⟩ : ∃ mn, mn = downX a.subs hs ⟨x0, x1, x2⟩ := ⟨_, rfl⟩
          have hmn : (if hs < x1 - bq then hs else x1 - bq) = mn := by rw [hmn0, hbq]; unfold downX; simp only; split <;> omega
          rw [← hbq] at hbq0 hbq1 HBX
          have HBQE := Lib.hid hbq
          have HMN := Lib.hid hmn0
          have hk0 : (0 : Int) ≤ (k : Int) := by omega
          have hk1 : (k : Int) < (n : Int) := by omega
          have hwr : IntKind.i64.wrap (x1 - bq) = x1 - bq := IntWalk.i64_in _ (by omega)
          clear hcell hcc q1 hkl' hbq hmn0
          go_upto_region 20 with fail
          obtain ⟨w6, hw6⟩ : ∃ w6, w6 = wr.alloc (.cells #[.int .i64 x0, .int .i64 x1, .int .i64 x2] 50) := ⟨_, rfl⟩
          obtain ⟨bK, hbK⟩ : ∃ bK, bK = wr.heap.size := ⟨_, rfl⟩
          have HK6 : Hid (w6.heap[bK]? = some (.cells #[.int .i64 x0, .int .i64 x1, .int .i64 x2] 50 (0, 0))) := Lib.hid (by rw [hw6, hbK]; exact heap_alloc_new wr _)
          have HP6 : Hid (PI w bA bD bP a su en day s.1 w6) := Lib.hid (by rw [hw6]; exact HPP.out.below (below_alloc _ _))
          rw [← hw6, ← hbK]
          obtain ⟨J, hJ⟩ : ∃ J, J = fun W : World => Below w6.heap.size w6 W := ⟨_, rfl⟩
          have HJO : Hid (∀ W, J W → Below w6.heap.size w6 W) := Lib.hid fun W hW => by rw [hJ] at hW; exact hW
          have HJI : Hid (∀ W, Below w6.heap.size w6 W → J W) := Lib.hid fun W hW => by rw [hJ]; exact hW
          have HJD : Hid (∀ W, J W → J W.drew) := Lib.hid fun W hW => HJI.out _ ((HJO.out W hW).drew)
          have HJ0 : Hid (J w6) := Lib.hid (HJI.out _ (Below.refl _ _))
          have HPW : Hid (∀ W, J W → PI w bA bD bP a su en day s.1 W) := Lib.hid fun W hW => HP6.out.below (HJO.out W hW)
          have HCL : Hid (∀ W, J W → ∀ j, W.cell? ⟨bA, j, none⟩ = #[.int .i64 a.credit, su, en][j]?) := Lib.hid fun W hW j => obj_cell (HPW.out W hW).box j
          have HCK : Hid (∀ W, J W → ∀ j, W.cell? ⟨bK, j, none⟩ = #[.int .i64 x0, .int .i64 x1, .int .i64 x2][j]?) := Lib.hid fun W hW j => obj_cell (obj_below HK6.out (HJO.out W hW)) j
          have HBQ : Hid (∀ W, J W → Calls Try.prog 58 #[.agg #[.int .i64 a.credit, su, en], .int .i64 x0] W fun e w' => e = .returned (.int .i64 bq) ∧ J w') := Lib.hid fun W hW =>
            (HBX.out W (HPW.out W hW).old).mono fun e w' g => ⟨g.1, HJI.out _ ((HJO.out W hW).trans (g.2.mono (HJO.out W hW).size))⟩
          have egB := enters_of Try.func58 (by kernel_rfl) rfl
          clear hJ hw6 hbK c0 c1 c2
          go_cut [17] (fun c wx => c = .int .i64 mn ∧ Hid (J wx))
          case first =>
            refine wp_region_props [66, 67, 68, 69, 70, 71, 72, 73, 74, 17] (slotS [66, 67, 68, 69, 70, 71, 72, 73, 74, 17]) (readsS [66, 67, 68, 69, 70, 71, 72, 73, 74, 17]) (RTs [66, 67, 68, 69, 70, 71, 72, 73, 74, 17] [.pointer (some ⟨bK, 1, none⟩), .int .i64 x1, .agg #[.int .i64 a.credit, su, en], .pointer (some ⟨bK, 0, none⟩), .int .i64 x0, .int .i64 bq, .int .i64 (x1 - bq), .int .i64 hs, .int .i64 mn, .int .i64 mn]) J (by kernel_rfl) (by kernel_rfl) (by kernel_rfl) (HJD.out _ HJ0.out) (fun j f q v W hq h => RTs.upd hq h) ?_ ?_
            case refine_1 =>
              intro iq hiq f W hIW hdep
              have hiq' : iq < 10 := hiq
              generalize ha1 : putsL _ [66, 67, 68, 69, 70, 71, 72, 73, 74, 17] f = a1
              match iq, hiq', hdep with
              | 0, _, hdep =>
                have E16 : a1.tmps[16]?.getD undef = .pointer (some ⟨bK, 0, none⟩) := by rw [← ha1]; exact (putsL_out2 _ _ _ _ (by decide)).trans rfl
                exact wpOp_val rfl rfl (v := .pointer (some ⟨bK, 1, none⟩)) (w' := W) (by simp [execOp, go_sem, E16]) ⟨hIW, fun _ h => h, Or.inl ⟨_, by decide, rfl, updF_same _ _ _⟩⟩
              | 1, _, hdep =>
                have E66 : a1.tmps[66]?.getD undef = .pointer (some ⟨bK, 1, none⟩) := by rw [← ha1]; exact (putsL_in2 _ _ _ _ (by decide) (show 66 < 94 from by decide)).trans (hdep 0 (by kernel_rfl))
                have v1 : W.cell? ⟨bK, 1, none⟩ = some (.int .i64 x1) := by simpa using HCK.out W hIW 1
                exact wpOp_val rfl rfl (v := .int .i64 x1) (w' := W) (by simp [execOp, go_sem, E66, v1]) ⟨hIW, fun _ h => h, Or.inl ⟨_, by decide, rfl, updF_same _ _ _⟩⟩
              | 2, _, hdep =>
                have E3 : a1.tmps[3]?.getD undef = .pointer (some ⟨bA, 0, none⟩) := by rw [← ha1]; exact (putsL_out2 _ _ _ _ (by decide)).trans rfl
                have v0 : W.cell? ⟨bA, 0, none⟩ = some (.int .i64 a.credit) := by simpa using HCL.out W hIW 0
                have v1 : W.cell? ⟨bA, 1, none⟩ = some (su) := by simpa using HCL.out W hIW 1
                have v2 : W.cell? ⟨bA, 2, none⟩ = some (en) := by simpa using HCL.out W hIW 2
                exact wpOp_val rfl rfl (v := .agg #[.int .i64 a.credit, su, en]) (w' := W) (by simp [execOp, go_sem, E3, v0, v1, v2]) ⟨hIW, fun _ h => h, Or.inl ⟨_, by decide, rfl, updF_same _ _ _⟩⟩
              | 3, _, hdep =>
                have E16 : a1.tmps[16]?.getD undef = .pointer (some ⟨bK, 0, none⟩) := by rw [← ha1]; exact (putsL_out2 _ _ _ _ (by decide)).trans rfl
                exact wpOp_val rfl rfl (v := .pointer (some ⟨bK, 0, none⟩)) (w' := W) (by simp [execOp, go_sem, E16]) ⟨hIW, fun _ h => h, Or.inl ⟨_, by decide, rfl, updF_same _ _ _⟩⟩
              | 4, _, hdep =>
                have E69 : a1.tmps[69]?.getD undef = .pointer (some ⟨bK, 0, none⟩) := by rw [← ha1]; exact (putsL_in2 _ _ _ _ (by decide) (show 69 < 94 from by decide)).trans (hdep 3 (by kernel_rfl))
                have v0 : W.cell? ⟨bK, 0, none⟩ = some (.int .i64 x0) := by simpa using HCK.out W hIW 0
                exact wpOp_val rfl rfl (v := .int .i64 x0) (w' := W) (by simp [execOp, go_sem, E69, v0]) ⟨hIW, fun _ h => h, Or.inl ⟨_, by decide, rfl, updF_same _ _ _⟩⟩
              | 5, _, hdep =>
                have E68 : a1.tmps[68]?.getD undef = .agg #[.int .i64 a.credit, su, en] := by rw [← ha1]; exact (putsL_in2 _ _ _ _ (by decide) (show 68 < 94 from by decide)).trans (hdep 2 (by kernel_rfl))
                have E70 : a1.tmps[70]?.getD undef = .int .i64 x0 := by rw [← ha1]; exact (putsL_in2 _ _ _ _ (by decide) (show 70 < 94 from by decide)).trans (hdep 4 (by kernel_rfl))
                refine wpOp_call rfl rfl (n := 58) (vs := #[.agg #[.int .i64 a.credit, su, en], .int .i64 x0]) (by have := egB #[.agg #[.int .i64 a.credit, su, en], .int .i64 x0] W; simp [execOp, E68, E70, resolve, invoke, go_sem] <;> exact this) ((HBQ.out W hIW).mono fun e w' h => (⟨_, h.1, rfl, h.2⟩ : ∃ v, e = .returned v ∧ (v = .int .i64 bq ∧ J w'))) ?_
                rintro v w' ⟨rfl, hI'⟩
                exact ⟨hI', fun _ h => h, Or.inl ⟨_, by decide, rfl, updF_same _ _ _⟩⟩
              | 6, _, hdep =>
                have E67 : a1.tmps[67]?.getD undef = .int .i64 x1 := by rw [← ha1]; exact (putsL_in2 _ _ _ _ (by decide) (show 67 < 94 from by decide)).trans (hdep 1 (by kernel_rfl))
                have E71 : a1.tmps[71]?.getD undef = .int .i64 bq := by rw [← ha1]; exact (putsL_in2 _ _ _ _ (by decide) (show 71 < 94 from by decide)).trans (hdep 5 (by kernel_rfl))
                exact wpOp_val rfl rfl (v := .int .i64 (x1 - bq)) (w' := W) (by simp [execOp, go_sem, E67, E71, hwr]) ⟨hIW, fun _ h => h, Or.inl ⟨_, by decide, rfl, updF_same _ _ _⟩⟩
              | 7, _, hdep =>
                have E11 : a1.tmps[11]?.getD undef = .int .i64 hs := by rw [← ha1]; exact (putsL_out2 _ _ _ _ (by decide)).trans rfl
                exact wpOp_val rfl rfl (v := .int .i64 hs) (w' := W) (by simp [execOp, go_sem, E11]) ⟨hIW, fun _ h => h, Or.inl ⟨_, by decide, rfl, updF_same _ _ _⟩⟩
              | 8, _, hdep =>
                have E72 : a1.tmps[72]?.getD undef = .int .i64 (x1 - bq) := by rw [← ha1]; exact (putsL_in2 _ _ _ _ (by decide) (show 72 < 94 from by decide)).trans (hdep 6 (by kernel_rfl))
                have E73 : a1.tmps[73]?.getD undef = .int .i64 hs := by rw [← ha1]; exact (putsL_in2 _ _ _ _ (by decide) (show 73 < 94 from by decide)).trans (hdep 7 (by kernel_rfl))
                exact wpOp_val rfl rfl (v := .int .i64 mn) (w' := W) (by simp [execOp, go_sem, E72, E73, hmn]) ⟨hIW, fun _ h => h, Or.inl ⟨_, by decide, rfl, updF_same _ _ _⟩⟩
              | 9, _, hdep =>
                have E74 : a1.tmps[74]?.getD undef = .int .i64 mn := by rw [← ha1]; exact (putsL_in2 _ _ _ _ (by decide) (show 74 < 94 from by decide)).trans (hdep 8 (by kernel_rfl))
                exact wpOp_val rfl rfl (v := .int .i64 mn) (w' := W) (by simp [execOp, go_sem, E74]) ⟨hIW, fun _ h => h, Or.inl ⟨_, by decide, rfl, updF_same _ _ _⟩⟩
              | iq + 10, h, _ => exact absurd h (by omega)
            case refine_2 =>
              intro f W hIW hR
              have h17 : f 17 = .int .i64 mn := hR 9 (show 9 < 10 from by decide)
              simp only [putsL, List.foldl_cons, List.foldl_nil, Act.put, List.setIfInBounds_toArray, List.set_cons_zero, List.set_cons_succ]
              go_wp2
              go_meet
              exact ⟨(by first | rfl | exact h17), Lib.hid hIW⟩
          case rest =>
            obtain ⟨rfl, HJW⟩ := hcut
            have HPC := Lib.hid (HPW.out _ HJW.out)
            have k0 := HCK.out _ HJW.out 0
            simp at k0
            clear HJ0 HJD HJI HJO HCL HCK HBQ HPW HJW HP6 HK6 HPP hmn hwr
            by_cases hpos : 0 < mn
            · have HC : Hid (Calls Try.prog 60 #[.int .i64 1, .int .i64 x0, .int .i64 mn, .pointer (some ⟨bA, 0, none⟩), .pointer (some ⟨bD, 0, none⟩), .pointer (some ⟨bP, 0, none⟩)] wc fun e w' => e = .returned (.tuple #[]) ∧ PI w bA bD bP a su en day (s.1 ++ [⟨a.ents.length + 1 + s.1.length, day, 1, x0, mn, 0⟩]) w' ∧ wc.heap.size ≤ w'.heap.size) := Lib.hid (swPlanC_any 1 x0 mn HPC.out (HEN.out wc HPC.out.old) HR.out (by omega))
              have HNX : Hid (downStep a.subs day a.ents.length s ⟨x0, x1, x2⟩ = (s.1 ++ [⟨a.ents.length + 1 + s.1.length, day, 1, x0, mn, 0⟩], s.2 - mn)) := Lib.hid (by
                unfold downStep
                rw [← hhs.out]
                rw [← HMN.out]
                exact if_pos hpos)
              have hmb : mn ≤ 1000000000000 ∧ mn ≤ hs := by have := HMN.out; unfold downX at this; simp only at this; rw [← HBQE.out] at this; omega
              go_wp2_with fail
              refine (HC.out).mono ?_
              rintro e w7 ⟨rfl, hp7, -⟩
              have HP7 := Lib.hid hp7
              clear hp7 k0
              go_wp2
              go_roundw
              case rel => exact ⟨k + 1, downStep a.subs day a.ents.length s ⟨x0, x1, x2⟩, hs - mn, rfl, (by first | rfl | go_num), Lib.hid (by rw [HNX.out]; simp only; rw [← hhs.out]), by omega, Lib.hid HST.out.symm, Lib.hid (by rw [HNX.out]; exact HP7.out), by rw [HNX.out]; simp; omega, by omega, by omega⟩
              case measure => simp [RowKit.intOf]; omega
            · have HNX : Hid (downStep a.subs day a.ents.length s ⟨x0, x1, x2⟩ = s) := Lib.hid (by
                unfold downStep
                rw [← hhs.out]
                rw [← HMN.out]
                exact if_neg hpos)
              clear k0
              go_wp2
              go_roundw
              case rel => exact ⟨k + 1, s, hs, rfl, (by first | rfl | go_num), hhs, by omega, Lib.hid (HNX.out.symm.trans HST.out.symm), HPC, by omega, by omega, by omega⟩
              case measure => simp [RowKit.intOf]; omega
        · obtain rfl : n = k := by omega
          rw [show ks.take n = ks by rw [HN.out, List.take_length]] at HSS
          have hpl : s = planS a.subs day a.ents.length ks := HSS.out
          obtain ⟨ao, cap, h4, h5⟩ := HPP.out.plan
          rw [← hpl] at h400
          obtain ⟨L, hL⟩ : ∃ L, L = s.1.length := ⟨_, rfl⟩
          have HO := Lib.hid h5
          have p0 := obj_cell h4 0
          have hbx := HPP.out.box
          have u2 := obj_cell hbx 2
          simp at p0 u2
          rw [HEE.out] at u2
          rw [← hL] at p0 h400
          rw [← HM.out] at h400
          have hle : (m : Int) + (L : Int) ≤ 400 := by omega
          have HPL := Lib.hid hpl
          have HLL := Lib.hid hL
          clear h4 h5 hbx hpl hL h400
          go_wp2
          go_ret2
          refine ⟨ao, cap, ?_, ?_, HPP.out.old⟩
          · rw [← HPL.out, ← HLL.out]; rfl
          · rw [← HPL.out]
            exact ownsRow_mono HO.out (by have := HPP.out.lo; omega)

end Go.Proofs.Ytoelidndnajedaa
