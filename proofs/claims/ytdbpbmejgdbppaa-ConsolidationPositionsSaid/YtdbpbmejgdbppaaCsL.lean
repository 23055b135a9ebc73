/- Every difference is the claim less the debt, or the income less the expense, and there are no others: for every tape. -/
import Derived.Test.YtdbpbmejgdbppaaCsQ
import Derived.Test.YtdbpbmejgdbppaaCsC
import Derived.Test.YtdbpbmejgdbppaaCsZ
set_option linter.unusedSimpArgs false
set_option linter.unusedVariables false
namespace Go.Proofs.Ytdbpbmejgdbppaa
open Go.RowKit Go.Lib Go.Proofs Go.Maps

theorem cntD_take {a b r : Int} {D : List Dif} {j : Nat} (hj : j < D.length) : cntD a b r (D.take (j + 1)) = cntD a b r (D.take j) + (if D[j].a = a ∧ D[j].b = b ∧ D[j].r = r then 1 else 0) := by
  rw [List.take_succ_eq_append_getElem hj, cntD_app]
  simp [cntD]
theorem pM_eq (d : Int) (l : List Pst) (a b r : Int) : pM d l a b r = posQ d 140 a b r l - (-posQ d 240 b a r l) := by
  simp only [pM, ownQ, othQ, mut1]; omega
theorem qM_eq (d : Int) (l : List Pst) (a b r : Int) : qM d l a b r = -posQ d 440 a b r l - posQ d 540 b a r l := by
  simp only [qM, ownQ, othQ, mut2]; omega

set_option maxRecDepth 100000 in
set_option maxHeartbeats 32000000 in
theorem cspos_any (v : Value) (n : Nat) (w : World) (hi : IntsAt w v n w.heap.size) (hn : n ≤ 9223372036854775807) :
    Calls Try.prog 3 #[v] w fun e w' => e = .returned (.bool true) ∧ Below w.heap.size w w' := by
  have HNEW := Lib.hid (sNew_any v n w hi hn)
  have HSN := Lib.hid sane43_true
  clear hi hn
  go_enter Try.func3, Try.ntmps3
  go_wp2_with fail
  refine (HNEW.out).mono ?_
  rintro e w1 ⟨rfl, t1, b1⟩
  obtain ⟨tb, htb⟩ : ∃ tb, tb = w.heap.size := ⟨_, rfl⟩
  rw [← htb] at t1 ⊢
  have HLG := Lib.hid (sLedger_any tb 12 3 60 w1 t1 (by omega) (by omega) (by omega))
  have HW1 := Lib.hid b1
  have HTB := Lib.hid htb
  clear t1 b1 HNEW htb
  go_wp2_with fail
  refine (HLG.out).mono ?_
  rintro e w2 ⟨l, lv, rfl, hin, hl12, hl, hsi⟩
  have HB2 := Lib.hid ((HW1.out).grown hsi.old HW1.out.size (fun q e => by injection e with e; rw [← e, ← HTB.out]; exact Nat.le_refl _))
  obtain ⟨av, cv, rfl, hcap, -⟩ := PstsAt.open hl
  have HOK := Lib.hid hin.ok
  obtain ⟨nl, hnl⟩ : ∃ k, k = l.length := ⟨_, rfl⟩
  have HNL := Lib.hid hnl
  rw [← hnl]
  rw [← hnl] at hl hcap
  have hnl4 : nl ≤ 12 := by rw [hnl]; omega
  obtain ⟨bL, hbL⟩ : ∃ x, x = w2.heap.size := ⟨_, rfl⟩
  obtain ⟨w3, hw3⟩ : ∃ w3, w3 = w2.alloc (.cells #[.slice av nl cv] 27) := ⟨_, rfl⟩
  have HX3 : Hid (w3.heap[bL]? = some (.cells #[.slice av nl cv] 27 (0, 0))) := Lib.hid (by rw [hw3, hbL]; exact heap_alloc_new _ _)
  have HB3 : Hid (Below w.heap.size w w3) := Lib.hid (by rw [hw3]; exact HB2.out.alloc HB2.out.size _)
  have HL3 : Hid (PstsAt w3 (.slice av nl cv) l) := Lib.hid (by rw [hw3]; exact ListAt.below hl (below_alloc _ _))
  have HW3 := Lib.hid hw3
  have HBL := Lib.hid hbL
  clear hw3 hl hsi hin hnl hbL HLG hl12
  go_upto_region 3 with fail
  rw [← HW3.out, ← HBL.out]
  clear HW3
  obtain ⟨bg, hbg⟩ : ∃ b, b = w3.heap.size := ⟨_, rfl⟩
  obtain ⟨w4, hw4⟩ : ∃ W, W = w3.alloc (.cells #[.int .i64 1, .int .i64 2, .int .i64 3] 3) := ⟨_, rfl⟩
  have HB4 : Hid (Below w.heap.size w w4) := Lib.hid (by rw [hw4]; exact HB3.out.alloc HB3.out.size _)
  have HL4 : Hid (PstsAt w4 (.slice av nl cv) l) := Lib.hid (by rw [hw4]; exact HL3.out.below (below_alloc _ _))
  have HX4 : Hid (w4.heap[bL]? = some (.cells #[.slice av nl cv] 27 (0, 0))) := Lib.hid (by rw [hw4]; exact obj_below HX3.out (below_alloc _ _))
  have HG4 : Hid (ListAt intC 1 w4 (.slice (some ⟨bg, 0, none⟩) 3 3) [1, 2, 3]) := Lib.hid (by rw [hw4, hbg]; exact list_newC intF w3 ([1, 2, 3] : List Int) 3)
  have HEX := Lib.hid (csExplain_right HOK.out (g := [1, 2, 3]) ⟨by decide, by decide, by decide, by decide⟩ 60 ⟨by decide, by decide⟩ (.slice av nl cv) (.slice (some ⟨bg, 0, none⟩) 3 3) w4 HL4.out HG4.out)
  unfold ExPost at HEX
  obtain ⟨D, hD⟩ : ∃ D, D = difL 60 l (eachQ [1, 2, 3] (refsM l)) := ⟨_, rfl⟩
  have HDM : Hid (∀ x ∈ D, x.amt ≠ 0 ∧ ((x.kind = 1 ∧ x.amt = pM 60 l x.a x.b x.r) ∨ (x.kind = 2 ∧ x.amt = qM 60 l x.a x.b x.r))) := Lib.hid fun x hx => by rw [hD] at hx; exact mem_difL hx
  have HCA : Hid (∀ a b r, 1 ≤ a ∧ a ≤ 3 → 1 ≤ b ∧ b ≤ 3 → a ≠ b → cntD a b r D = (if pM 60 l a b r = 0 then 0 else 1) + (if qM 60 l a b r = 0 then 0 else 1)) := Lib.hid fun a b r ha hb hab => by rw [hD]; exact cnt_all asc123 (mem123.2 ha) (mem123.2 hb) hab
  have hDn : D.length ≤ 2400 := by
    have h1 := difL_len 60 l (eachQ [1, 2, 3] (refsM l))
    have h2 := eachQ_len (g := [1, 2, 3]) (R := refsM l) (by decide)
    have h3 := refsM_len l
    rw [← hD] at h1
    rw [HNL.out] at hnl4
    omega
  rw [← hD] at HEX
  have HW4 := Lib.hid hw4
  have HBG := Lib.hid hbg
  have s0 := obj_cell HX3.out 0
  simp at s0
  clear hw4 hbg hD
  go_wp2_with fail
  rw [← HW4.out, ← HBG.out]
  refine (HEX.out).mono ?_
  rintro e w5 ⟨vd, rfl, hown, hb5⟩
  have HB5 := Lib.hid (HB4.out.trans (hb5.mono HB4.out.size))
  have HX5 := Lib.hid (obj_below HX4.out hb5)
  have HL5 := Lib.hid (HL4.out.below hb5)
  obtain ⟨ad, cd, rfl, hcapD, hds⟩ := (ListAt.owns hown : ListAt difC 5 w5 vd D).shape difF
  have HDS := Lib.hid hds
  obtain ⟨nd, hnd⟩ : ∃ k, k = D.length := ⟨_, rfl⟩
  have HND := Lib.hid hnd
  rw [← hnd] at hDn hcapD ⊢
  have egC := enters_of Try.func11 (by kernel_rfl) rfl
  have egD := enters_of Try.func12 (by kernel_rfl) rfl
  have egI := enters_of Try.func13 (by kernel_rfl) rfl
  have egE := enters_of Try.func14 (by kernel_rfl) rfl
  clear hb5 hown hds hnd s0 HEX HW4 HBG HB4 HX4 HL4 HG4 HX3 HL3 HB3
  go_wp2
  go_loopw [7, 8] (fun fv av' wr => ∃ a : Int, fv = .int .i64 0 ∧ av' = .int .i64 a ∧ 1 ≤ a ∧ a ≤ 4 ∧ Hid (Below w5.heap.size w5 wr)) (fun _ av' _ => (4 - RowKit.intOf av').toNat)
  case atStart => exact ⟨1, rfl, rfl, by omega, by omega, Lib.hid (Below.refl _ _)⟩
  case round =>
    obtain ⟨a, rfl, rfl, ha1, ha4, HB⟩ := hrel
    by_cases hlt : a ≤ 3
    · have hwa : IntKind.i64.wrap (a + 1) = a + 1 := IntWalk.i64_in _ (by omega)
      go_wp2
      go_loopw [7, 9] (fun fv bv wi => ∃ b : Int, fv = .int .i64 0 ∧ bv = .int .i64 b ∧ 1 ≤ b ∧ b ≤ 4 ∧ Hid (Below w5.heap.size w5 wi)) (fun _ bv _ => (4 - RowKit.intOf bv).toNat)
      case atStart => exact ⟨1, rfl, rfl, by omega, by omega, HB⟩
      case round =>
        clear HB
        obtain ⟨b, rfl, rfl, hb1, hb4, HB⟩ := hrel
        by_cases hltb : b ≤ 3
        · have hwb : IntKind.i64.wrap (b + 1) = b + 1 := IntWalk.i64_in _ (by omega)
          go_wp2
          go_loopw [7, 10] (fun fv rv wk => ∃ r : Int, fv = .int .i64 0 ∧ rv = .int .i64 r ∧ 0 ≤ r ∧ r ≤ 4 ∧ Hid (Below w5.heap.size w5 wk)) (fun _ rv _ => (4 - RowKit.intOf rv).toNat)
          case atStart => exact ⟨0, rfl, rfl, by omega, by omega, HB⟩
          case round =>
            clear HB
            obtain ⟨r, rfl, rfl, hr0, hr4, HB⟩ := hrel
            by_cases hgo : r ≤ 3 ∧ a ≠ b
            · obtain ⟨hr3, hab⟩ := hgo
              obtain ⟨q1, hq1⟩ : ∃ q, q = posQ 60 140 a b r l := ⟨_, rfl⟩
              obtain ⟨q2, hq2⟩ : ∃ q, q = -posQ 60 240 b a r l := ⟨_, rfl⟩
              obtain ⟨q3, hq3⟩ : ∃ q, q = -posQ 60 440 a b r l := ⟨_, rfl⟩
              obtain ⟨q4, hq4⟩ : ∃ q, q = posQ 60 540 b a r l := ⟨_, rfl⟩
              have g1 := posQ_bound (d := 60) (a := 140) (e := a) (p := b) (r := r) HOK.out.mem
              have g2 := posQ_bound (d := 60) (a := 240) (e := b) (p := a) (r := r) HOK.out.mem
              have g3 := posQ_bound (d := 60) (a := 440) (e := a) (p := b) (r := r) HOK.out.mem
              have g4 := posQ_bound (d := 60) (a := 540) (e := b) (p := a) (r := r) HOK.out.mem
              rw [← HNL.out] at g1 g2 g3 g4
              have HQ1 := Lib.hid hq1
              have HQ2 := Lib.hid hq2
              have HQ3 := Lib.hid hq3
              have HQ4 := Lib.hid hq4
              obtain ⟨pq, hpq⟩ : ∃ q, q = q1 - q2 := ⟨_, rfl⟩
              obtain ⟨qq, hqq⟩ : ∃ q, q = q3 - q4 := ⟨_, rfl⟩
              have HPM : Hid (pM 60 l a b r = pq) := Lib.hid (by rw [pM_eq, hpq, hq1, hq2])
              have HQM : Hid (qM 60 l a b r = qq) := Lib.hid (by rw [qM_eq, hqq, hq3, hq4])
              have hwp : IntKind.i64.wrap (q1 - q2) = pq := by rw [hpq]; exact IntWalk.i64_in _ (by omega)
              have hwq : IntKind.i64.wrap (q3 - q4) = qq := by rw [hqq]; exact IntWalk.i64_in _ (by omega)
              have HCT := Lib.hid (HCA.out a b r ⟨ha1, hlt⟩ ⟨hb1, hltb⟩ hab)
              rw [HPM.out, HQM.out] at HCT
              have HX6 := Lib.hid (obj_below HX5.out HB.out)
              have HL6 := Lib.hid (HL5.out.below HB.out)
              obtain ⟨J, hJ⟩ : ∃ J, J = fun W : World => Below wr.heap.size wr W := ⟨_, rfl⟩
              have HJO : Hid (∀ W, J W → Below wr.heap.size wr W) := Lib.hid fun W hW => by rw [hJ] at hW; exact hW
              have HJI : Hid (∀ W, Below wr.heap.size wr W → J W) := Lib.hid fun W hW => by rw [hJ]; exact hW
              have HJD : Hid (∀ W, J W → J W.drew) := Lib.hid fun W hW => HJI.out _ ((HJO.out W hW).drew)
              have HJ0 : Hid (J wr) := Lib.hid (HJI.out _ (Below.refl _ _))
              have HJ5 : Hid (∀ W, J W → Below w5.heap.size w5 W) := Lib.hid fun W hW => HB.out.trans ((HJO.out W hW).mono HB.out.size)
              have HCL : Hid (∀ W, J W → ∀ q, W.cell? ⟨bL, q, none⟩ = #[.slice av nl cv][q]?) := Lib.hid fun W hW q => obj_cell (obj_below HX6.out (HJO.out W hW)) q
              have HLS : Hid (∀ W, J W → PstsAt W (.slice av nl cv) l) := Lib.hid fun W hW => HL6.out.below (HJO.out W hW)
              have HC1 : Hid (∀ W, J W → Calls Try.prog 11 #[.agg #[.slice av nl cv], .int .i64 a, .int .i64 b, .int .i64 r, .int .i64 60] W fun e w' => e = .returned (.int .i64 q1) ∧ J w') := Lib.hid fun W hW => by
                have h := csClaim_right HOK.out a b r 60 (by unfold in64; omega) (by unfold in64; omega) (by unfold in64; omega) (.slice av nl cv) W (HLS.out W hW)
                rw [← HQ1.out] at h
                exact h.mono fun e w' g => ⟨g.1, HJI.out _ ((HJO.out W hW).trans (g.2.mono (HJO.out W hW).size))⟩
              have HC2 : Hid (∀ W, J W → Calls Try.prog 12 #[.agg #[.slice av nl cv], .int .i64 b, .int .i64 a, .int .i64 r, .int .i64 60] W fun e w' => e = .returned (.int .i64 q2) ∧ J w') := Lib.hid fun W hW => by
                have h := csDebt_right HOK.out b a r 60 (by unfold in64; omega) (by unfold in64; omega) (by unfold in64; omega) (.slice av nl cv) W (HLS.out W hW)
                rw [← HQ2.out] at h
                exact h.mono fun e w' g => ⟨g.1, HJI.out _ ((HJO.out W hW).trans (g.2.mono (HJO.out W hW).size))⟩
              have HC3 : Hid (∀ W, J W → Calls Try.prog 13 #[.agg #[.slice av nl cv], .int .i64 a, .int .i64 b, .int .i64 r, .int .i64 60] W fun e w' => e = .returned (.int .i64 q3) ∧ J w') := Lib.hid fun W hW => by
                have h := csIncome_right HOK.out a b r 60 (by unfold in64; omega) (by unfold in64; omega) (by unfold in64; omega) (.slice av nl cv) W (HLS.out W hW)
                rw [← HQ3.out] at h
                exact h.mono fun e w' g => ⟨g.1, HJI.out _ ((HJO.out W hW).trans (g.2.mono (HJO.out W hW).size))⟩
              have HC4 : Hid (∀ W, J W → Calls Try.prog 14 #[.agg #[.slice av nl cv], .int .i64 b, .int .i64 a, .int .i64 r, .int .i64 60] W fun e w' => e = .returned (.int .i64 q4) ∧ J w') := Lib.hid fun W hW => by
                have h := csExpense_right HOK.out b a r 60 (by unfold in64; omega) (by unfold in64; omega) (by unfold in64; omega) (.slice av nl cv) W (HLS.out W hW)
                rw [← HQ4.out] at h
                exact h.mono fun e w' g => ⟨g.1, HJI.out _ ((HJO.out W hW).trans (g.2.mono (HJO.out W hW).size))⟩
              clear hq1 hq2 hq3 hq4 hpq hqq g1 g2 g3 g4 hJ HB HLS
              go_upto_region 16 with fail
              go_cut [11] (fun gv wx => gv = .int .i64 pq ∧ Hid (J wx))
              case first =>
                refine wp_region_props [44, 45, 46, 47, 48, 49, 50, 51, 52, 53, 54, 11] (slotS [44, 45, 46, 47, 48, 49, 50, 51, 52, 53, 54, 11]) (readsS [44, 45, 46, 47, 48, 49, 50, 51, 52, 53, 54, 11]) (RTs [44, 45, 46, 47, 48, 49, 50, 51, 52, 53, 54, 11] [.agg #[.slice av nl cv], .int .i64 a, .int .i64 b, .int .i64 r, .int .i64 q1, .agg #[.slice av nl cv], .int .i64 b, .int .i64 a, .int .i64 r, .int .i64 q2, .int .i64 pq, .int .i64 pq]) J (by kernel_rfl) (by kernel_rfl) (by kernel_rfl) (HJD.out _ HJ0.out) (fun j f q v W hq h => RTs.upd hq h) ?_ ?_
                case refine_1 =>
                  intro iq hiq f W hIW hdep
                  have hiq' : iq < 12 := hiq
                  generalize ha1 : putsL _ [44, 45, 46, 47, 48, 49, 50, 51, 52, 53, 54, 11] f = a1
                  match iq, hiq', hdep with
                  | 0, _, hdep =>
                    have E4 : a1.tmps[4]?.getD undef = .pointer (some ⟨bL, 0, none⟩) := by rw [← ha1]; exact (putsL_out2 _ _ _ _ (by decide)).trans rfl
                    have v0 : W.cell? ⟨bL, 0, none⟩ = some (.slice av nl cv) := by simpa using HCL.out W hIW 0
                    exact wpOp_val rfl rfl (v := .agg #[.slice av nl cv]) (w' := W) (by simp [execOp, go_sem, E4, v0]) ⟨hIW, fun _ h => h, Or.inl ⟨_, by decide, rfl, updF_same _ _ _⟩⟩
                  | 1, _, hdep =>
                    have E8 : a1.tmps[8]?.getD undef = .int .i64 a := by rw [← ha1]; exact (putsL_out2 _ _ _ _ (by decide)).trans rfl
                    exact wpOp_val rfl rfl (v := .int .i64 a) (w' := W) (by simp [execOp, go_sem, E8]) ⟨hIW, fun _ h => h, Or.inl ⟨_, by decide, rfl, updF_same _ _ _⟩⟩
                  | 2, _, hdep =>
                    have E9 : a1.tmps[9]?.getD undef = .int .i64 b := by rw [← ha1]; exact (putsL_out2 _ _ _ _ (by decide)).trans rfl
                    exact wpOp_val rfl rfl (v := .int .i64 b) (w' := W) (by simp [execOp, go_sem, E9]) ⟨hIW, fun _ h => h, Or.inl ⟨_, by decide, rfl, updF_same _ _ _⟩⟩
                  | 3, _, hdep =>
                    have E10 : a1.tmps[10]?.getD undef = .int .i64 r := by rw [← ha1]; exact (putsL_out2 _ _ _ _ (by decide)).trans rfl
                    exact wpOp_val rfl rfl (v := .int .i64 r) (w' := W) (by simp [execOp, go_sem, E10]) ⟨hIW, fun _ h => h, Or.inl ⟨_, by decide, rfl, updF_same _ _ _⟩⟩
                  | 4, _, hdep =>
                    have E44 : a1.tmps[44]?.getD undef = .agg #[.slice av nl cv] := by rw [← ha1]; exact (putsL_in2 _ _ _ _ (by decide) (show 44 < 129 from by decide)).trans (hdep 0 (by kernel_rfl))
                    have E45 : a1.tmps[45]?.getD undef = .int .i64 a := by rw [← ha1]; exact (putsL_in2 _ _ _ _ (by decide) (show 45 < 129 from by decide)).trans (hdep 1 (by kernel_rfl))
                    have E46 : a1.tmps[46]?.getD undef = .int .i64 b := by rw [← ha1]; exact (putsL_in2 _ _ _ _ (by decide) (show 46 < 129 from by decide)).trans (hdep 2 (by kernel_rfl))
                    have E47 : a1.tmps[47]?.getD undef = .int .i64 r := by rw [← ha1]; exact (putsL_in2 _ _ _ _ (by decide) (show 47 < 129 from by decide)).trans (hdep 3 (by kernel_rfl))
                    refine wpOp_call rfl rfl (n := 11) (vs := #[.agg #[.slice av nl cv], .int .i64 a, .int .i64 b, .int .i64 r, .int .i64 60]) (by have := egC #[.agg #[.slice av nl cv], .int .i64 a, .int .i64 b, .int .i64 r, .int .i64 60] W; simp [execOp, E44, E45, E46, E47, resolve, invoke, go_sem] <;> exact this) ((HC1.out W hIW).mono fun e w' h => (⟨_, h.1, rfl, h.2⟩ : ∃ v, e = .returned v ∧ (v = .int .i64 q1 ∧ J w'))) ?_
                    rintro v w' ⟨rfl, hI'⟩
                    exact ⟨hI', fun _ h => h, Or.inl ⟨_, by decide, rfl, updF_same _ _ _⟩⟩
                  | 5, _, hdep =>
                    have E4 : a1.tmps[4]?.getD undef = .pointer (some ⟨bL, 0, none⟩) := by rw [← ha1]; exact (putsL_out2 _ _ _ _ (by decide)).trans rfl
                    have v0 : W.cell? ⟨bL, 0, none⟩ = some (.slice av nl cv) := by simpa using HCL.out W hIW 0
                    exact wpOp_val rfl rfl (v := .agg #[.slice av nl cv]) (w' := W) (by simp [execOp, go_sem, E4, v0]) ⟨hIW, fun _ h => h, Or.inl ⟨_, by decide, rfl, updF_same _ _ _⟩⟩
                  | 6, _, hdep =>
                    have E9 : a1.tmps[9]?.getD undef = .int .i64 b := by rw [← ha1]; exact (putsL_out2 _ _ _ _ (by decide)).trans rfl
                    exact wpOp_val rfl rfl (v := .int .i64 b) (w' := W) (by simp [execOp, go_sem, E9]) ⟨hIW, fun _ h => h, Or.inl ⟨_, by decide, rfl, updF_same _ _ _⟩⟩
                  | 7, _, hdep =>
                    have E8 : a1.tmps[8]?.getD undef = .int .i64 a := by rw [← ha1]; exact (putsL_out2 _ _ _ _ (by decide)).trans rfl
                    exact wpOp_val rfl rfl (v := .int .i64 a) (w' := W) (by simp [execOp, go_sem, E8]) ⟨hIW, fun _ h => h, Or.inl ⟨_, by decide, rfl, updF_same _ _ _⟩⟩
                  | 8, _, hdep =>
                    have E10 : a1.tmps[10]?.getD undef = .int .i64 r := by rw [← ha1]; exact (putsL_out2 _ _ _ _ (by decide)).trans rfl
                    exact wpOp_val rfl rfl (v := .int .i64 r) (w' := W) (by simp [execOp, go_sem, E10]) ⟨hIW, fun _ h => h, Or.inl ⟨_, by decide, rfl, updF_same _ _ _⟩⟩
                  | 9, _, hdep =>
                    have E49 : a1.tmps[49]?.getD undef = .agg #[.slice av nl cv] := by rw [← ha1]; exact (putsL_in2 _ _ _ _ (by decide) (show 49 < 129 from by decide)).trans (hdep 5 (by kernel_rfl))
                    have E50 : a1.tmps[50]?.getD undef = .int .i64 b := by rw [← ha1]; exact (putsL_in2 _ _ _ _ (by decide) (show 50 < 129 from by decide)).trans (hdep 6 (by kernel_rfl))
                    have E51 : a1.tmps[51]?.getD undef = .int .i64 a := by rw [← ha1]; exact (putsL_in2 _ _ _ _ (by decide) (show 51 < 129 from by decide)).trans (hdep 7 (by kernel_rfl))
                    have E52 : a1.tmps[52]?.getD undef = .int .i64 r := by rw [← ha1]; exact (putsL_in2 _ _ _ _ (by decide) (show 52 < 129 from by decide)).trans (hdep 8 (by kernel_rfl))
                    refine wpOp_call rfl rfl (n := 12) (vs := #[.agg #[.slice av nl cv], .int .i64 b, .int .i64 a, .int .i64 r, .int .i64 60]) (by have := egD #[.agg #[.slice av nl cv], .int .i64 b, .int .i64 a, .int .i64 r, .int .i64 60] W; simp [execOp, E49, E50, E51, E52, resolve, invoke, go_sem] <;> exact this) ((HC2.out W hIW).mono fun e w' h => (⟨_, h.1, rfl, h.2⟩ : ∃ v, e = .returned v ∧ (v = .int .i64 q2 ∧ J w'))) ?_
                    rintro v w' ⟨rfl, hI'⟩
                    exact ⟨hI', fun _ h => h, Or.inl ⟨_, by decide, rfl, updF_same _ _ _⟩⟩
                  | 10, _, hdep =>
                    have E48 : a1.tmps[48]?.getD undef = .int .i64 q1 := by rw [← ha1]; exact (putsL_in2 _ _ _ _ (by decide) (show 48 < 129 from by decide)).trans (hdep 4 (by kernel_rfl))
                    have E53 : a1.tmps[53]?.getD undef = .int .i64 q2 := by rw [← ha1]; exact (putsL_in2 _ _ _ _ (by decide) (show 53 < 129 from by decide)).trans (hdep 9 (by kernel_rfl))
                    exact wpOp_val rfl rfl (v := .int .i64 pq) (w' := W) (by simp [execOp, go_sem, E48, E53, hwp]) ⟨hIW, fun _ h => h, Or.inl ⟨_, by decide, rfl, updF_same _ _ _⟩⟩
                  | 11, _, hdep =>
                    have E54 : a1.tmps[54]?.getD undef = .int .i64 pq := by rw [← ha1]; exact (putsL_in2 _ _ _ _ (by decide) (show 54 < 129 from by decide)).trans (hdep 10 (by kernel_rfl))
                    exact wpOp_val rfl rfl (v := .int .i64 pq) (w' := W) (by simp [execOp, go_sem, E54]) ⟨hIW, fun _ h => h, Or.inl ⟨_, by decide, rfl, updF_same _ _ _⟩⟩
                  | iq + 12, h, _ => exact absurd h (by omega)
                case refine_2 =>
                  intro f W hIW hR
                  have h11 : f 11 = .int .i64 pq := hR 11 (show 11 < 12 from by decide)
                  simp only [putsL, List.foldl_cons, List.foldl_nil, Act.put, List.setIfInBounds_toArray, List.set_cons_zero, List.set_cons_succ]
                  go_wp2
                  go_meet
                  exact ⟨(by first | exact h11 | rfl), Lib.hid hIW⟩
              case rest =>
                obtain ⟨rfl, HJ16⟩ := hcut
                go_upto_region 17 with fail
                go_cut [12] (fun gv wx => gv = .int .i64 qq ∧ Hid (J wx))
                case first =>
                  refine wp_region_props [55, 56, 57, 58, 59, 60, 61, 62, 63, 64, 65, 12] (slotS [55, 56, 57, 58, 59, 60, 61, 62, 63, 64, 65, 12]) (readsS [55, 56, 57, 58, 59, 60, 61, 62, 63, 64, 65, 12]) (RTs [55, 56, 57, 58, 59, 60, 61, 62, 63, 64, 65, 12] [.agg #[.slice av nl cv], .int .i64 a, .int .i64 b, .int .i64 r, .int .i64 q3, .agg #[.slice av nl cv], .int .i64 b, .int .i64 a, .int .i64 r, .int .i64 q4, .int .i64 qq, .int .i64 qq]) J (by kernel_rfl) (by kernel_rfl) (by kernel_rfl) (HJD.out _ HJ16.out) (fun j f q v W hq h => RTs.upd hq h) ?_ ?_
                  case refine_1 =>
                    intro iq hiq f W hIW hdep
                    have hiq' : iq < 12 := hiq
                    generalize ha1 : putsL _ [55, 56, 57, 58, 59, 60, 61, 62, 63, 64, 65, 12] f = a1
                    match iq, hiq', hdep with
                    | 0, _, hdep =>
                      have E4 : a1.tmps[4]?.getD undef = .pointer (some ⟨bL, 0, none⟩) := by rw [← ha1]; exact (putsL_out2 _ _ _ _ (by decide)).trans rfl
                      have v0 : W.cell? ⟨bL, 0, none⟩ = some (.slice av nl cv) := by simpa using HCL.out W hIW 0
                      exact wpOp_val rfl rfl (v := .agg #[.slice av nl cv]) (w' := W) (by simp [execOp, go_sem, E4, v0]) ⟨hIW, fun _ h => h, Or.inl ⟨_, by decide, rfl, updF_same _ _ _⟩⟩
                    | 1, _, hdep =>
                      have E8 : a1.tmps[8]?.getD undef = .int .i64 a := by rw [← ha1]; exact (putsL_out2 _ _ _ _ (by decide)).trans rfl
                      exact wpOp_val rfl rfl (v := .int .i64 a) (w' := W) (by simp [execOp, go_sem, E8]) ⟨hIW, fun _ h => h, Or.inl ⟨_, by decide, rfl, updF_same _ _ _⟩⟩
                    | 2, _, hdep =>
                      have E9 : a1.tmps[9]?.getD undef = .int .i64 b := by rw [← ha1]; exact (putsL_out2 _ _ _ _ (by decide)).trans rfl
                      exact wpOp_val rfl rfl (v := .int .i64 b) (w' := W) (by simp [execOp, go_sem, E9]) ⟨hIW, fun _ h => h, Or.inl ⟨_, by decide, rfl, updF_same _ _ _⟩⟩
                    | 3, _, hdep =>
                      have E10 : a1.tmps[10]?.getD undef = .int .i64 r := by rw [← ha1]; exact (putsL_out2 _ _ _ _ (by decide)).trans rfl
                      exact wpOp_val rfl rfl (v := .int .i64 r) (w' := W) (by simp [execOp, go_sem, E10]) ⟨hIW, fun _ h => h, Or.inl ⟨_, by decide, rfl, updF_same _ _ _⟩⟩
                    | 4, _, hdep =>
                      have E55 : a1.tmps[55]?.getD undef = .agg #[.slice av nl cv] := by rw [← ha1]; exact (putsL_in2 _ _ _ _ (by decide) (show 55 < 129 from by decide)).trans (hdep 0 (by kernel_rfl))
                      have E56 : a1.tmps[56]?.getD undef = .int .i64 a := by rw [← ha1]; exact (putsL_in2 _ _ _ _ (by decide) (show 56 < 129 from by decide)).trans (hdep 1 (by kernel_rfl))
                      have E57 : a1.tmps[57]?.getD undef = .int .i64 b := by rw [← ha1]; exact (putsL_in2 _ _ _ _ (by decide) (show 57 < 129 from by decide)).trans (hdep 2 (by kernel_rfl))
                      have E58 : a1.tmps[58]?.getD undef = .int .i64 r := by rw [← ha1]; exact (putsL_in2 _ _ _ _ (by decide) (show 58 < 129 from by decide)).trans (hdep 3 (by kernel_rfl))
                      refine wpOp_call rfl rfl (n := 13) (vs := #[.agg #[.slice av nl cv], .int .i64 a, .int .i64 b, .int .i64 r, .int .i64 60]) (by have := egI #[.agg #[.slice av nl cv], .int .i64 a, .int .i64 b, .int .i64 r, .int .i64 60] W; simp [execOp, E55, E56, E57, E58, resolve, invoke, go_sem] <;> exact this) ((HC3.out W hIW).mono fun e w' h => (⟨_, h.1, rfl, h.2⟩ : ∃ v, e = .returned v ∧ (v = .int .i64 q3 ∧ J w'))) ?_
                      rintro v w' ⟨rfl, hI'⟩
                      exact ⟨hI', fun _ h => h, Or.inl ⟨_, by decide, rfl, updF_same _ _ _⟩⟩
                    | 5, _, hdep =>
                      have E4 : a1.tmps[4]?.getD undef = .pointer (some ⟨bL, 0, none⟩) := by rw [← ha1]; exact (putsL_out2 _ _ _ _ (by decide)).trans rfl
                      have v0 : W.cell? ⟨bL, 0, none⟩ = some (.slice av nl cv) := by simpa using HCL.out W hIW 0
                      exact wpOp_val rfl rfl (v := .agg #[.slice av nl cv]) (w' := W) (by simp [execOp, go_sem, E4, v0]) ⟨hIW, fun _ h => h, Or.inl ⟨_, by decide, rfl, updF_same _ _ _⟩⟩
                    | 6, _, hdep =>
                      have E9 : a1.tmps[9]?.getD undef = .int .i64 b := by rw [← ha1]; exact (putsL_out2 _ _ _ _ (by decide)).trans rfl
                      exact wpOp_val rfl rfl (v := .int .i64 b) (w' := W) (by simp [execOp, go_sem, E9]) ⟨hIW, fun _ h => h, Or.inl ⟨_, by decide, rfl, updF_same _ _ _⟩⟩
                    | 7, _, hdep =>
                      have E8 : a1.tmps[8]?.getD undef = .int .i64 a := by rw [← ha1]; exact (putsL_out2 _ _ _ _ (by decide)).trans rfl
                      exact wpOp_val rfl rfl (v := .int .i64 a) (w' := W) (by simp [execOp, go_sem, E8]) ⟨hIW, fun _ h => h, Or.inl ⟨_, by decide, rfl, updF_same _ _ _⟩⟩
                    | 8, _, hdep =>
                      have E10 : a1.tmps[10]?.getD undef = .int .i64 r := by rw [← ha1]; exact (putsL_out2 _ _ _ _ (by decide)).trans rfl
                      exact wpOp_val rfl rfl (v := .int .i64 r) (w' := W) (by simp [execOp, go_sem, E10]) ⟨hIW, fun _ h => h, Or.inl ⟨_, by decide, rfl, updF_same _ _ _⟩⟩
                    | 9, _, hdep =>
                      have E60 : a1.tmps[60]?.getD undef = .agg #[.slice av nl cv] := by rw [← ha1]; exact (putsL_in2 _ _ _ _ (by decide) (show 60 < 129 from by decide)).trans (hdep 5 (by kernel_rfl))
                      have E61 : a1.tmps[61]?.getD undef = .int .i64 b := by rw [← ha1]; exact (putsL_in2 _ _ _ _ (by decide) (show 61 < 129 from by decide)).trans (hdep 6 (by kernel_rfl))
                      have E62 : a1.tmps[62]?.getD undef = .int .i64 a := by rw [← ha1]; exact (putsL_in2 _ _ _ _ (by decide) (show 62 < 129 from by decide)).trans (hdep 7 (by kernel_rfl))
                      have E63 : a1.tmps[63]?.getD undef = .int .i64 r := by rw [← ha1]; exact (putsL_in2 _ _ _ _ (by decide) (show 63 < 129 from by decide)).trans (hdep 8 (by kernel_rfl))
                      refine wpOp_call rfl rfl (n := 14) (vs := #[.agg #[.slice av nl cv], .int .i64 b, .int .i64 a, .int .i64 r, .int .i64 60]) (by have := egE #[.agg #[.slice av nl cv], .int .i64 b, .int .i64 a, .int .i64 r, .int .i64 60] W; simp [execOp, E60, E61, E62, E63, resolve, invoke, go_sem] <;> exact this) ((HC4.out W hIW).mono fun e w' h => (⟨_, h.1, rfl, h.2⟩ : ∃ v, e = .returned v ∧ (v = .int .i64 q4 ∧ J w'))) ?_
                      rintro v w' ⟨rfl, hI'⟩
                      exact ⟨hI', fun _ h => h, Or.inl ⟨_, by decide, rfl, updF_same _ _ _⟩⟩
                    | 10, _, hdep =>
                      have E59 : a1.tmps[59]?.getD undef = .int .i64 q3 := by rw [← ha1]; exact (putsL_in2 _ _ _ _ (by decide) (show 59 < 129 from by decide)).trans (hdep 4 (by kernel_rfl))
                      have E64 : a1.tmps[64]?.getD undef = .int .i64 q4 := by rw [← ha1]; exact (putsL_in2 _ _ _ _ (by decide) (show 64 < 129 from by decide)).trans (hdep 9 (by kernel_rfl))
                      exact wpOp_val rfl rfl (v := .int .i64 qq) (w' := W) (by simp [execOp, go_sem, E59, E64, hwq]) ⟨hIW, fun _ h => h, Or.inl ⟨_, by decide, rfl, updF_same _ _ _⟩⟩
                    | 11, _, hdep =>
                      have E65 : a1.tmps[65]?.getD undef = .int .i64 qq := by rw [← ha1]; exact (putsL_in2 _ _ _ _ (by decide) (show 65 < 129 from by decide)).trans (hdep 10 (by kernel_rfl))
                      exact wpOp_val rfl rfl (v := .int .i64 qq) (w' := W) (by simp [execOp, go_sem, E65]) ⟨hIW, fun _ h => h, Or.inl ⟨_, by decide, rfl, updF_same _ _ _⟩⟩
                    | iq + 12, h, _ => exact absurd h (by omega)
                  case refine_2 =>
                    intro f W hIW hR
                    have h12 : f 12 = .int .i64 qq := hR 11 (show 11 < 12 from by decide)
                    simp only [putsL, List.foldl_cons, List.foldl_nil, Act.put, List.setIfInBounds_toArray, List.set_cons_zero, List.set_cons_succ]
                    go_wp2
                    go_meet
                    exact ⟨(by first | exact h12 | rfl), Lib.hid hIW⟩
                case rest =>
                  obtain ⟨rfl, HJ17⟩ := hcut
                  have HB7 := Lib.hid (HJ5.out _ HJ17.out)
                  clear HJ5 HJ16 HJ17 HJ0 HJI HJO HJD HCL HC1 HC2 HC3 HC4 HX6 HL6 hwp hwq
                  go_wp2
                  go_loopw [7, 68] (fun fv iv wj => ∃ (c : Int) (j : Nat), fv = .int .i64 c ∧ iv = .int .i64 j ∧ j ≤ nd ∧ 0 ≤ c ∧ c ≤ j ∧ Hid (c = cntD a b r (D.take j)) ∧ Hid (Below w5.heap.size w5 wj)) (fun _ iv _ => nd - (RowKit.intOf iv).toNat)
                  case atStart => exact ⟨0, 0, rfl, rfl, by omega, by omega, by omega, Lib.hid rfl, HB7⟩
                  case round =>
                    clear HB7
                    obtain ⟨c, j, rfl, rfl, hjn, hc0, hcj, HC, HBJ⟩ := hrel
                    by_cases hltj : j < nd
                    · have hjl : j < D.length := by rw [← HND.out]; exact hltj
                      obtain ⟨bD, oD, rfl, hbD, hcc⟩ := HDS.out (by omega)
                      have hcell := fun q (hq : q < 5) => (HBJ.out.cell (p := ⟨bD, oD + j * 5 + q, none⟩) hbD).trans (hcc j hjl q hq)
                      have HTK := Lib.hid (cntD_take (a := a) (b := b) (r := r) hjl)
                      have hxm := HDM.out _ (List.getElem_mem hjl)
                      have hj0 : (0 : Int) ≤ (j : Int) := by omega
                      have hj1 : (j : Int) < (nd : Int) := by omega
                      have hwj : IntKind.i64.wrap ((j : Int) + 1) = (j : Int) + 1 := IntWalk.i64_in _ (by omega)
                      have hwc : IntKind.i64.wrap (c + 1) = c + 1 := IntWalk.i64_in _ (by omega)
                      generalize D[j] = x at *
                      obtain ⟨x0, x1, x2, x3, x4⟩ := x
                      simp only at hxm HTK
                      have c0 : wr.cell? ⟨bD, oD + j * 5, none⟩ = some (.int .i64 x0) := hcell 0 (by omega)
                      have c1 : wr.cell? ⟨bD, oD + j * 5 + 1, none⟩ = some (.int .i64 x1) := hcell 1 (by omega)
                      have c2 : wr.cell? ⟨bD, oD + j * 5 + 2, none⟩ = some (.int .i64 x2) := hcell 2 (by omega)
                      have c3 : wr.cell? ⟨bD, oD + j * 5 + 3, none⟩ = some (.int .i64 x3) := hcell 3 (by omega)
                      have c4 : wr.cell? ⟨bD, oD + j * 5 + 4, none⟩ = some (.int .i64 x4) := hcell 4 (by omega)
                      obtain ⟨w8, hw8⟩ : ∃ W, W = wr.alloc (.cells #[.int .i64 x0, .int .i64 x1, .int .i64 x2, .int .i64 x3, .int .i64 x4] 35) := ⟨_, rfl⟩
                      obtain ⟨bX, hbX⟩ : ∃ q, q = wr.heap.size := ⟨_, rfl⟩
                      have hx8 : w8.heap[bX]? = some (.cells #[.int .i64 x0, .int .i64 x1, .int .i64 x2, .int .i64 x3, .int .i64 x4] 35 (0, 0)) := by rw [hw8, hbX]; exact heap_alloc_new _ _
                      have y0 := obj_cell hx8 0
                      have y1 := obj_cell hx8 1
                      have y2 := obj_cell hx8 2
                      have y3 := obj_cell hx8 3
                      have y4 := obj_cell hx8 4
                      simp at y0 y1 y2 y3 y4
                      have HB8 : Hid (Below w5.heap.size w5 w8) := Lib.hid (by rw [hw8]; exact HBJ.out.alloc HBJ.out.size _)
                      have HW8 := Lib.hid hw8
                      have HBX := Lib.hid hbX
                      clear hcell hcc hx8 hw8 hbX
                      go_upto_region 21 with fail
                      rw [← HW8.out, ← HBX.out]
                      clear c0 c1 c2 c3 c4
                      by_cases ea : x1 = a
                      · by_cases eb : x2 = b
                        · by_cases er : x3 = r
                          · obtain ⟨hne, hk⟩ := hxm
                            rw [if_pos ⟨ea, eb, er⟩] at HTK
                            rcases hk with ⟨ek, em⟩ | ⟨ek, em⟩
                            · have em2 : x4 = pq := by rw [em, ea, eb, er]; exact HPM.out
                              clear em
                              subst ek em2 ea eb er
                              go_wp2
                              go_roundw
                              case rel => exact ⟨c + 1, j + 1, rfl, by first | rfl | go_num, by omega, by omega, by omega, Lib.hid (by rw [HTK.out, HC.out]), HB8⟩
                              case measure => simp [RowKit.intOf]; omega
                            · have em2 : x4 = qq := by rw [em, ea, eb, er]; exact HQM.out
                              clear em
                              subst ek em2 ea eb er
                              go_wp2
                              go_roundw
                              case rel => exact ⟨c + 1, j + 1, rfl, by first | rfl | go_num, by omega, by omega, by omega, Lib.hid (by rw [HTK.out, HC.out]), HB8⟩
                              case measure => simp [RowKit.intOf]; omega
                          · rw [if_neg (fun h => er h.2.2)] at HTK
                            go_wp2
                            go_roundw
                            case rel => exact ⟨c, j + 1, rfl, by first | rfl | go_num, by omega, by omega, by omega, Lib.hid (by rw [HTK.out, HC.out]; omega), HB8⟩
                            case measure => simp [RowKit.intOf]; omega
                        · rw [if_neg (fun h => eb h.2.1)] at HTK
                          go_wp2
                          go_roundw
                          case rel => exact ⟨c, j + 1, rfl, by first | rfl | go_num, by omega, by omega, by omega, Lib.hid (by rw [HTK.out, HC.out]; omega), HB8⟩
                          case measure => simp [RowKit.intOf]; omega
                      · rw [if_neg (fun h => ea h.1)] at HTK
                        go_wp2
                        go_roundw
                        case rel => exact ⟨c, j + 1, rfl, by first | rfl | go_num, by omega, by omega, by omega, Lib.hid (by rw [HTK.out, HC.out]; omega), HB8⟩
                        case measure => simp [RowKit.intOf]; omega
                    · obtain rfl : j = nd := by omega
                      have hct : c = (if pq = 0 then 0 else 1) + (if qq = 0 then 0 else 1) := by rw [HC.out, ← HCT.out, List.take_of_length_le (by rw [← HND.out]; exact Nat.le_refl _)]
                      clear HC
                      have hwr : IntKind.i64.wrap (r + 1) = r + 1 := IntWalk.i64_in _ (by omega)
                      by_cases hp : pq = 0
                      · by_cases hq : qq = 0
                        · rw [if_pos hp, if_pos hq] at hct
                          obtain rfl : c = 0 := hct
                          go_wp2
                          go_roundw
                          case rel => exact ⟨r + 1, by first | rfl | go_num, by first | rfl | go_num, by omega, by omega, HBJ⟩
                          case measure => simp [RowKit.intOf]; omega
                        · rw [if_pos hp, if_neg hq] at hct
                          obtain rfl : c = 1 := hct
                          go_wp2
                          go_roundw
                          case rel => exact ⟨r + 1, by first | rfl | go_num, by first | rfl | go_num, by omega, by omega, HBJ⟩
                          case measure => simp [RowKit.intOf]; omega
                      · by_cases hq : qq = 0
                        · rw [if_neg hp, if_pos hq] at hct
                          obtain rfl : c = 1 := hct
                          go_wp2
                          go_roundw
                          case rel => exact ⟨r + 1, by first | rfl | go_num, by first | rfl | go_num, by omega, by omega, HBJ⟩
                          case measure => simp [RowKit.intOf]; omega
                        · rw [if_neg hp, if_neg hq] at hct
                          obtain rfl : c = 2 := hct
                          go_wp2
                          go_roundw
                          case rel => exact ⟨r + 1, by first | rfl | go_num, by first | rfl | go_num, by omega, by omega, HBJ⟩
                          case measure => simp [RowKit.intOf]; omega
            · by_cases hr3 : r ≤ 3
              · obtain rfl : a = b := by
                  by_cases e : a = b
                  · exact e
                  · exact absurd ⟨hr3, e⟩ hgo
                go_wp2
                go_roundw
                case rel => exact ⟨a + 1, rfl, by first | rfl | go_num, by omega, by omega, HB⟩
                case measure => simp [RowKit.intOf]; omega
              · go_wp2
                go_roundw
                case rel => exact ⟨b + 1, rfl, by first | rfl | go_num, by omega, by omega, HB⟩
                case measure => simp [RowKit.intOf]; omega
        · go_wp2
          go_roundw
          case rel => exact ⟨a + 1, rfl, by first | rfl | go_num, by omega, by omega, HB⟩
          case measure => simp [RowKit.intOf]; omega
    · have HE := Lib.hid (HB5.out.trans (HB.out.mono HB5.out.size))
      clear HB
      go_wp2_with fail
      refine (HSN.out _).mono ?_
      rintro e w9 ⟨rfl, hb9⟩
      have HF := Lib.hid (HE.out.trans (hb9.mono HE.out.size))
      clear hb9
      go_wp2
      go_ret
      exact ⟨rfl, HF.out⟩

end Go.Proofs.Ytdbpbmejgdbppaa
