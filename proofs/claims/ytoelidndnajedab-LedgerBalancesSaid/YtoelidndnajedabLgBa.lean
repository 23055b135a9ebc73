/- The balances of an entity add up to 0, those of all entities are the sums of each, and a posting changes just two accounts: for every tape. -/
import Derived.Test.YtoelidndnajedabLgBaM
import Derived.Test.YtoelidndnajedabLgU
import Derived.Test.YtoelidndnajedabLgH
set_option linter.unusedSimpArgs false
set_option linter.unusedVariables false
namespace Go.Proofs.Ytoelidndnajedab
open Go.RowKit Go.Lib Go.Proofs Go.Maps

theorem index_four (W : World) : (Instr.index 35 (.agg #[.int .i64 110, .int .i64 140, .int .i64 240, .int .i64 410]) (.int .i64 0)).run Try.prog W = .ok (.int .i64 110) W ∧ (Instr.index 35 (.agg #[.int .i64 110, .int .i64 140, .int .i64 240, .int .i64 410]) (.int .i64 1)).run Try.prog W = .ok (.int .i64 140) W ∧ (Instr.index 35 (.agg #[.int .i64 110, .int .i64 140, .int .i64 240, .int .i64 410]) (.int .i64 2)).run Try.prog W = .ok (.int .i64 240) W ∧ (Instr.index 35 (.agg #[.int .i64 110, .int .i64 140, .int .i64 240, .int .i64 410]) (.int .i64 3)).run Try.prog W = .ok (.int .i64 410) W := ⟨by kernel_rfl, by kernel_rfl, by kernel_rfl, by kernel_rfl⟩

/-- What the first entities have together. -/
def upM (f : Int → Bool) (a : Int) (l : List Pst) : Nat → Int
  | 0 => 0
  | n + 1 => upM f a l n + ofM ((n : Int) + 1) f a l
theorem upM_bound {f : Int → Bool} {a : Int} {l : List Pst} (h : LdgOk l) : ∀ n : Nat, -(400000000000000 * (n : Int)) ≤ upM f a l n ∧ upM f a l n ≤ 400000000000000 * (n : Int)
  | 0 => by simp [upM]
  | n + 1 => by
    have h1 := upM_bound (f := f) (a := a) h n
    have h2 := ofM_bound (e := (n : Int) + 1) (f := f) (a := a) h.mem
    have h3 := h.len
    rw [upM]
    omega
theorem ofM_small {l : List Pst} (h : LdgOk l) (e : Int) (f : Int → Bool) (a : Int) : -400000000000000 ≤ ofM e f a l ∧ ofM e f a l ≤ 400000000000000 := by
  have h2 := ofM_bound (e := e) (f := f) (a := a) h.mem
  have h3 := h.len
  omega

set_option maxRecDepth 100000 in
set_option maxHeartbeats 32000000 in
theorem lgba_any (v : Value) (n : Nat) (a : Int) (w : World) (hi : IntsAt w v n w.heap.size) (hn : n ≤ 9223372036854775807) (ha : 0 ≤ a) (ha1 : a ≤ 65535) :
    Calls Try.prog 3 #[v, .int .u16 a] w fun e w' => e = .returned (.bool true) ∧ Below w.heap.size w w' := by
  have HNEW := Lib.hid (sNew_any v n w hi hn)
  have HSN := Lib.hid sane40_true
  clear hi hn
  go_enter Try.func3, Try.ntmps3
  go_wp2_with fail
  refine (HNEW.out).mono ?_
  rintro e w1 ⟨rfl, t1, b1⟩
  obtain ⟨tb, htb⟩ : ∃ tb, tb = w.heap.size := ⟨_, rfl⟩
  rw [← htb] at t1 ⊢
  have HLG := Lib.hid (sLedger_any tb 12 3 800 w1 t1 (by omega) (by omega) (by omega))
  have HW1 := Lib.hid b1
  have HTB := Lib.hid htb
  clear t1 b1 HNEW htb
  go_wp2_with fail
  refine (HLG.out).mono ?_
  rintro e w2 ⟨l, lv, rfl, hin, hl12, hl, hsi⟩
  have HB2 := Lib.hid ((HW1.out).grown hsi.old HW1.out.size (fun q e => by injection e with e; rw [← e, ← HTB.out]; exact Nat.le_refl _))
  obtain ⟨av, cv, rfl, hcap, -⟩ := PstsAt.open hl
  have HIN := Lib.hid hin
  have HOK := Lib.hid hin.ok
  have HSRC := Lib.hid hsi.src
  have H12 := Lib.hid hl12
  obtain ⟨dy, hdy⟩ : ∃ m, a.tmod 900 = m := ⟨_, rfl⟩
  have hdy0 : 0 ≤ dy := by rw [← hdy]; exact Int.tmod_nonneg _ ha
  have hdy1 : dy < 900 := by rw [← hdy]; exact Int.tmod_lt_of_pos _ (by omega)
  have hwa : IntKind.i64.wrap a = a := IntWalk.i64_in _ (by omega)
  have hwm : IntKind.i64.wrap dy = dy := IntWalk.i64_in _ (by omega)
  obtain ⟨nl, hnl⟩ : ∃ k, k = l.length := ⟨_, rfl⟩
  have HNL := Lib.hid hnl
  rw [← hnl]
  rw [← hnl] at hl hcap
  have hnl4 : nl ≤ 12 := by rw [hnl]; omega
  have HLV := Lib.hid hl
  obtain ⟨bL, hbL⟩ : ∃ x, x = w2.heap.size := ⟨_, rfl⟩
  have HNE : Hid (bL ≠ tb) := Lib.hid (by rw [hbL]; have := hsi.src.lt; omega)
  obtain ⟨w3, hw3⟩ : ∃ w3, w3 = w2.alloc (.cells #[.slice av nl cv] 28) := ⟨_, rfl⟩
  have HX3 : Hid (w3.heap[bL]? = some (.cells #[.slice av nl cv] 28 (0, 0))) := Lib.hid (by rw [hw3, hbL]; exact heap_alloc_new _ _)
  have HD3 : Hid (Below w2.heap.size w2 w3) := Lib.hid (by rw [hw3]; exact below_alloc _ _)
  have HL3 : Hid (PstsAt w3 (.slice av nl cv) l) := Lib.hid (by rw [hw3]; exact ListAt.below hl (below_alloc _ _))
  have HW3 := Lib.hid hw3
  have HBL := Lib.hid hbL
  have egO := enters_of Try.func11 (by kernel_rfl) rfl
  clear hw3 hl hsi hin hnl hbL HLG ha hl12 HLV
  go_upto_region 3 with fail
  rw [← HW3.out, ← HBL.out]
  clear HW3
  go_wp2
  go_loopw [8] (fun ev wr => ∃ ee : Int, ev = .int .i64 ee ∧ 0 ≤ ee ∧ ee ≤ 4 ∧ Hid (Below w3.heap.size w3 wr)) (fun ev _ => (4 - RowKit.intOf ev).toNat)
  case atStart => exact ⟨0, rfl, by omega, by omega, Lib.hid (Below.refl _ _)⟩
  case round =>
    obtain ⟨ee, rfl, he0, he4, HB⟩ := hrel
    by_cases hlt : ee ≤ 3
    · obtain ⟨g, hg⟩ : ∃ g, g = fun x => ofM ee (byDay dy) x l := ⟨_, rfl⟩
      have hBA := lgBalances_right HOK.out ee dy (.slice av nl cv) wr (ListAt.below HL3.out HB.out)
      have HZ : Hid (totB (balsM g) = 0) := Lib.hid (by rw [hg]; exact bals_zero ee _ HOK.out.mem)
      have HG := Lib.hid hg
      have HGB : Hid (∀ x, -400000000000000 ≤ g x ∧ g x ≤ 400000000000000) := Lib.hid fun x => by rw [hg]; exact ofM_small HOK.out ee _ x
      rw [← hg] at hBA
      have HBA := Lib.hid hBA
      have hxl := obj_below HX3.out HB.out
      have u0 := obj_cell hxl 0
      simp at u0
      clear hBA hg hxl
      go_wp2_with fail
      refine (HBA.out).mono ?_
      rintro e w4 ⟨u, rfl, hown, hb4⟩
      obtain ⟨ao, cap, rfl, hcapB, hcs⟩ := (ListAt.owns hown : ListAt balC 2 w4 u (balsM g)).shape balF
      have HCS := Lib.hid hcs
      have HB4 := Lib.hid (HB.out.trans (hb4.mono HB.out.size))
      obtain ⟨nb, hnb⟩ : ∃ k, k = (balsM g).length := ⟨_, rfl⟩
      have hnb5 : nb ≤ 500 := by rw [hnb]; exact bals_length g
      have HNB := Lib.hid hnb
      rw [← hnb] at hcapB ⊢
      clear hnb hcs hown hb4 u0 HBA
      go_wp2
      go_loopw [9, 35] (fun sv iv wi => ∃ (j : Nat) (s : Int), sv = .int .i64 s ∧ iv = .int .i64 j ∧ j ≤ nb ∧ Hid (s = totB ((balsM g).take j)) ∧ Hid (Below w4.heap.size w4 wi)) (fun _ iv _ => nb - (RowKit.intOf iv).toNat)
      case atStart => exact ⟨0, 0, rfl, rfl, by omega, Lib.hid rfl, Lib.hid (Below.refl _ _)⟩
      case round =>
        obtain ⟨j, s, rfl, rfl, hjn, HS, HBI⟩ := hrel
        by_cases hlt2 : j < nb
        · have hjl : j < (balsM g).length := by rw [← HNB.out]; exact hlt2
          obtain ⟨b1, o1, rfl, hb1, hcc⟩ := HCS.out (by omega)
          have c0 := (HBI.out.cell (p := ⟨b1, o1 + j * 2 + 0, none⟩) hb1).trans (hcc j hjl 0 (by omega))
          have c1 := (HBI.out.cell (p := ⟨b1, o1 + j * 2 + 1, none⟩) hb1).trans (hcc j hjl 1 (by omega))
          have hmem := mem_bals (List.getElem_mem hjl)
          have HTK : Hid (totB ((balsM g).take (j + 1)) = totB ((balsM g).take j) + (balsM g)[j].amt) := Lib.hid (by
            rw [List.take_succ_eq_append_getElem hjl, totB_append]; simp [totB])
          have hbd := totB_bound (B := 400000000000000) (by omega) (l := (balsM g).take j) fun b hb => by
            have h1 := mem_bals (List.mem_of_mem_take hb)
            rw [h1.1]; exact HGB.out _
          have hlk : ((balsM g).take j).length = j := by rw [List.length_take]; omega
          rw [hlk, ← HS.out] at hbd
          generalize (balsM g)[j] = x at *
          obtain ⟨ac, am⟩ := x
          simp only at hmem HTK
          obtain ⟨hm1, hm2, hm3, hm4⟩ := hmem
          have hamb := HGB.out ac
          rw [← hm1] at hamb
          replace c0 : wr.cell? ⟨b1, o1 + j * 2, none⟩ = some (.int .i64 ac) := c0
          replace c1 : wr.cell? ⟨b1, o1 + j * 2 + 1, none⟩ = some (.int .i64 am) := c1
          have hj0 : (0 : Int) ≤ (j : Int) := by omega
          have hj1 : (j : Int) < (nb : Int) := by omega
          have hws : IntKind.i64.wrap (s + am) = s + am := IntWalk.i64_in _ (by omega)
          have hwj : IntKind.i64.wrap ((j : Int) + 1) = (j : Int) + 1 := IntWalk.i64_in _ (by omega)
          obtain ⟨w5, hw5⟩ : ∃ x, x = wr.alloc (.cells #[.int .i64 ac, .int .i64 am] 33) := ⟨_, rfl⟩
          obtain ⟨bB, hbB⟩ : ∃ x, x = wr.heap.size := ⟨_, rfl⟩
          have HX5 : Hid (w5.heap[bB]? = some (.cells #[.int .i64 ac, .int .i64 am] 33 (0, 0))) := Lib.hid (by rw [hw5, hbB]; exact heap_alloc_new _ _)
          have HBI5 : Hid (Below w4.heap.size w4 w5) := Lib.hid (by rw [hw5]; exact HBI.out.alloc HBI.out.size _)
          have HB5 := Lib.hid (HB4.out.trans (HBI5.out.mono HB4.out.size))
          have HXL5 := Lib.hid (obj_below HX3.out HB5.out)
          have HL5 := Lib.hid (ListAt.below HL3.out HB5.out)
          have HW5 := Lib.hid hw5
          have HBB := Lib.hid hbB
          have HMQ := Lib.hid hm1
          have hqz : ¬ am = 0 := hm2
          have hacr : 100 ≤ ac ∧ ac ≤ 599 := ⟨hm3, hm4⟩
          clear hm1 hm2 hm3 hm4 hcc hbd hlk hamb hw5 hbB hjl
          go_upto_region 12 with fail
          rw [← HW5.out, ← HBB.out]
          obtain ⟨J, hJ⟩ : ∃ J, J = fun W : World => Below w5.heap.size w5 W := ⟨_, rfl⟩
          have HJO : Hid (∀ W, J W → Below w5.heap.size w5 W) := Lib.hid fun W hW => by rw [hJ] at hW; exact hW
          have HJI : Hid (∀ W, Below w5.heap.size w5 W → J W) := Lib.hid fun W hW => by rw [hJ]; exact hW
          have HJD : Hid (∀ W, J W → J W.drew) := Lib.hid fun W hW => HJI.out _ ((HJO.out W hW).drew)
          have HJ0 : Hid (J w5) := Lib.hid (HJI.out _ (Below.refl _ _))
          have HCB : Hid (∀ W, J W → ∀ q, W.cell? ⟨bB, q, none⟩ = #[.int .i64 ac, .int .i64 am][q]?) := Lib.hid fun W hW q => obj_cell (obj_below HX5.out (HJO.out W hW)) q
          have HCL : Hid (∀ W, J W → ∀ q, W.cell? ⟨bL, q, none⟩ = #[.slice av nl cv][q]?) := Lib.hid fun W hW q => obj_cell (obj_below HXL5.out (HJO.out W hW)) q
          have HOF : Hid (∀ W, J W → Calls Try.prog 11 #[.agg #[.slice av nl cv], .int .i64 ee, .int .i64 ac, .int .i64 dy] W fun e w' => e = .returned (.int .i64 am) ∧ J w') := Lib.hid fun W hW => by
            have h := lgOf_right HOK.out ee ac dy (.slice av nl cv) W (ListAt.below HL5.out (HJO.out W hW)) (by omega) (by omega)
            rw [show ofM ee (byDay dy) ac l = am by rw [HMQ.out, HG.out]] at h
            exact h.mono fun e w' g => ⟨g.1, HJI.out _ ((HJO.out W hW).trans (g.2.mono (HJO.out W hW).size))⟩
          clear hJ c0 c1
          go_cut [56] (fun c wx => c = .bool false ∧ Hid (J wx))
          case first =>
            refine wp_region_props [43, 44, 45, 46, 47, 48, 49, 50, 51, 52, 53, 54, 55, 56] (slotS [43, 44, 45, 46, 47, 48, 49, 50, 51, 52, 53, 54, 55, 56]) (readsS [43, 44, 45, 46, 47, 48, 49, 50, 51, 52, 53, 54, 55, 56]) (RTs [43, 44, 45, 46, 47, 48, 49, 50, 51, 52, 53, 54, 55, 56] [.pointer (some ⟨bB, 1, none⟩), .int .i64 am, .bool false, .bool false, .agg #[.slice av nl cv], .int .i64 ee, .pointer (some ⟨bB, 0, none⟩), .int .i64 ac, .int .i64 dy, .int .i64 am, .pointer (some ⟨bB, 1, none⟩), .int .i64 am, .bool false, .bool false]) J (by kernel_rfl) (by kernel_rfl) (by kernel_rfl) (HJD.out _ HJ0.out) (fun j f q v W hq h => RTs.upd hq h) ?_ ?_
            case refine_1 =>
              intro iq hiq f W hIW hdep
              have hiq' : iq < 14 := hiq
              generalize ha1 : putsL _ [43, 44, 45, 46, 47, 48, 49, 50, 51, 52, 53, 54, 55, 56] f = a1
              match iq, hiq', hdep with
              | 0, _, hdep =>
                have E11 : a1.tmps[11]?.getD undef = .pointer (some ⟨bB, 0, none⟩) := by rw [← ha1]; exact (putsL_out2 _ _ _ _ (by decide)).trans rfl
                exact wpOp_val rfl rfl (v := .pointer (some ⟨bB, 1, none⟩)) (w' := W) (by simp [execOp, go_sem, E11]) ⟨hIW, fun _ h => h, Or.inl ⟨_, by decide, rfl, updF_same _ _ _⟩⟩
              | 1, _, hdep =>
                have E43 : a1.tmps[43]?.getD undef = .pointer (some ⟨bB, 1, none⟩) := by rw [← ha1]; exact (putsL_in2 _ _ _ _ (by decide) (show 43 < 154 from by decide)).trans (hdep 0 (by kernel_rfl))
                have v1 : W.cell? ⟨bB, 1, none⟩ = some (.int .i64 am) := by simpa using HCB.out W hIW 1
                exact wpOp_val rfl rfl (v := .int .i64 am) (w' := W) (by simp [execOp, go_sem, E43, v1]) ⟨hIW, fun _ h => h, Or.inl ⟨_, by decide, rfl, updF_same _ _ _⟩⟩
              | 2, _, hdep =>
                have E44 : a1.tmps[44]?.getD undef = .int .i64 am := by rw [← ha1]; exact (putsL_in2 _ _ _ _ (by decide) (show 44 < 154 from by decide)).trans (hdep 1 (by kernel_rfl))
                exact wpOp_val rfl rfl (v := .bool false) (w' := W) (by simp [execOp, go_sem, E44, hqz]) ⟨hIW, fun _ h => h, Or.inl ⟨_, by decide, rfl, updF_same _ _ _⟩⟩
              | 3, _, hdep =>
                have E45 : a1.tmps[45]?.getD undef = .bool false := by rw [← ha1]; exact (putsL_in2 _ _ _ _ (by decide) (show 45 < 154 from by decide)).trans (hdep 2 (by kernel_rfl))
                exact wpOp_val rfl rfl (v := .bool false) (w' := W) (by simp [execOp, go_sem, E45]) ⟨hIW, fun _ h => h, Or.inl ⟨_, by decide, rfl, updF_same _ _ _⟩⟩
              | 4, _, hdep =>
                have G3 : a1.tmps[46]? = some (.bool false) := by rw [← ha1]; exact (putsL_some _ _ _ _ (by decide) (show 46 < 154 from by decide)).trans (congrArg some (hdep 3 (by kernel_rfl)))
                have E6 : a1.tmps[6]?.getD undef = .pointer (some ⟨bL, 0, none⟩) := by rw [← ha1]; exact (putsL_out2 _ _ _ _ (by decide)).trans rfl
                have v0 : W.cell? ⟨bL, 0, none⟩ = some (.slice av nl cv) := by simpa using HCL.out W hIW 0
                exact wpOp_valG rfl rfl (yielded_of rfl G3) (v := .agg #[.slice av nl cv]) (w' := W) (by simp [execOp, go_sem, E6, v0]) ⟨hIW, fun _ h => h, Or.inl ⟨_, by decide, rfl, updF_same _ _ _⟩⟩
              | 5, _, hdep =>
                have G3 : a1.tmps[46]? = some (.bool false) := by rw [← ha1]; exact (putsL_some _ _ _ _ (by decide) (show 46 < 154 from by decide)).trans (congrArg some (hdep 3 (by kernel_rfl)))
                have E8 : a1.tmps[8]?.getD undef = .int .i64 ee := by rw [← ha1]; exact (putsL_out2 _ _ _ _ (by decide)).trans rfl
                exact wpOp_valG rfl rfl (yielded_of rfl G3) (v := .int .i64 ee) (w' := W) (by simp [execOp, go_sem, E8]) ⟨hIW, fun _ h => h, Or.inl ⟨_, by decide, rfl, updF_same _ _ _⟩⟩
              | 6, _, hdep =>
                have G3 : a1.tmps[46]? = some (.bool false) := by rw [← ha1]; exact (putsL_some _ _ _ _ (by decide) (show 46 < 154 from by decide)).trans (congrArg some (hdep 3 (by kernel_rfl)))
                have E11 : a1.tmps[11]?.getD undef = .pointer (some ⟨bB, 0, none⟩) := by rw [← ha1]; exact (putsL_out2 _ _ _ _ (by decide)).trans rfl
                exact wpOp_valG rfl rfl (yielded_of rfl G3) (v := .pointer (some ⟨bB, 0, none⟩)) (w' := W) (by simp [execOp, go_sem, E11]) ⟨hIW, fun _ h => h, Or.inl ⟨_, by decide, rfl, updF_same _ _ _⟩⟩
              | 7, _, hdep =>
                have G3 : a1.tmps[46]? = some (.bool false) := by rw [← ha1]; exact (putsL_some _ _ _ _ (by decide) (show 46 < 154 from by decide)).trans (congrArg some (hdep 3 (by kernel_rfl)))
                have E49 : a1.tmps[49]?.getD undef = .pointer (some ⟨bB, 0, none⟩) := by rw [← ha1]; exact (putsL_in2 _ _ _ _ (by decide) (show 49 < 154 from by decide)).trans (hdep 6 (by kernel_rfl))
                have v0 : W.cell? ⟨bB, 0, none⟩ = some (.int .i64 ac) := by simpa using HCB.out W hIW 0
                exact wpOp_valG rfl rfl (yielded_of rfl G3) (v := .int .i64 ac) (w' := W) (by simp [execOp, go_sem, E49, v0]) ⟨hIW, fun _ h => h, Or.inl ⟨_, by decide, rfl, updF_same _ _ _⟩⟩
              | 8, _, hdep =>
                have G3 : a1.tmps[46]? = some (.bool false) := by rw [← ha1]; exact (putsL_some _ _ _ _ (by decide) (show 46 < 154 from by decide)).trans (congrArg some (hdep 3 (by kernel_rfl)))
                have E7 : a1.tmps[7]?.getD undef = .int .i64 dy := by rw [← ha1]; exact (putsL_out2 _ _ _ _ (by decide)).trans rfl
                exact wpOp_valG rfl rfl (yielded_of rfl G3) (v := .int .i64 dy) (w' := W) (by simp [execOp, go_sem, E7]) ⟨hIW, fun _ h => h, Or.inl ⟨_, by decide, rfl, updF_same _ _ _⟩⟩
              | 9, _, hdep =>
                have G3 : a1.tmps[46]? = some (.bool false) := by rw [← ha1]; exact (putsL_some _ _ _ _ (by decide) (show 46 < 154 from by decide)).trans (congrArg some (hdep 3 (by kernel_rfl)))
                have E47 : a1.tmps[47]?.getD undef = .agg #[.slice av nl cv] := by rw [← ha1]; exact (putsL_in2 _ _ _ _ (by decide) (show 47 < 154 from by decide)).trans (hdep 4 (by kernel_rfl))
                have E48 : a1.tmps[48]?.getD undef = .int .i64 ee := by rw [← ha1]; exact (putsL_in2 _ _ _ _ (by decide) (show 48 < 154 from by decide)).trans (hdep 5 (by kernel_rfl))
                have E50 : a1.tmps[50]?.getD undef = .int .i64 ac := by rw [← ha1]; exact (putsL_in2 _ _ _ _ (by decide) (show 50 < 154 from by decide)).trans (hdep 7 (by kernel_rfl))
                have E51 : a1.tmps[51]?.getD undef = .int .i64 dy := by rw [← ha1]; exact (putsL_in2 _ _ _ _ (by decide) (show 51 < 154 from by decide)).trans (hdep 8 (by kernel_rfl))
                refine wpOp_callG rfl rfl (yielded_of rfl G3) (n := 11) (vs := #[.agg #[.slice av nl cv], .int .i64 ee, .int .i64 ac, .int .i64 dy]) (by have := egO #[.agg #[.slice av nl cv], .int .i64 ee, .int .i64 ac, .int .i64 dy] W; simp [execOp, E47, E48, E50, E51, resolve, invoke, go_sem] <;> exact this) ((HOF.out W hIW).mono fun e w' h => (⟨_, h.1, rfl, h.2⟩ : ∃ v, e = .returned v ∧ (v = .int .i64 am ∧ J w'))) ?_
                rintro v w' ⟨rfl, hI'⟩
                exact ⟨hI', fun _ h => h, Or.inl ⟨_, by decide, rfl, updF_same _ _ _⟩⟩
              | 10, _, hdep =>
                have G3 : a1.tmps[46]? = some (.bool false) := by rw [← ha1]; exact (putsL_some _ _ _ _ (by decide) (show 46 < 154 from by decide)).trans (congrArg some (hdep 3 (by kernel_rfl)))
                have E11 : a1.tmps[11]?.getD undef = .pointer (some ⟨bB, 0, none⟩) := by rw [← ha1]; exact (putsL_out2 _ _ _ _ (by decide)).trans rfl
                exact wpOp_valG rfl rfl (yielded_of rfl G3) (v := .pointer (some ⟨bB, 1, none⟩)) (w' := W) (by simp [execOp, go_sem, E11]) ⟨hIW, fun _ h => h, Or.inl ⟨_, by decide, rfl, updF_same _ _ _⟩⟩
              | 11, _, hdep =>
                have G3 : a1.tmps[46]? = some (.bool false) := by rw [← ha1]; exact (putsL_some _ _ _ _ (by decide) (show 46 < 154 from by decide)).trans (congrArg some (hdep 3 (by kernel_rfl)))
                have E53 : a1.tmps[53]?.getD undef = .pointer (some ⟨bB, 1, none⟩) := by rw [← ha1]; exact (putsL_in2 _ _ _ _ (by decide) (show 53 < 154 from by decide)).trans (hdep 10 (by kernel_rfl))
                have v1 : W.cell? ⟨bB, 1, none⟩ = some (.int .i64 am) := by simpa using HCB.out W hIW 1
                exact wpOp_valG rfl rfl (yielded_of rfl G3) (v := .int .i64 am) (w' := W) (by simp [execOp, go_sem, E53, v1]) ⟨hIW, fun _ h => h, Or.inl ⟨_, by decide, rfl, updF_same _ _ _⟩⟩
              | 12, _, hdep =>
                have G3 : a1.tmps[46]? = some (.bool false) := by rw [← ha1]; exact (putsL_some _ _ _ _ (by decide) (show 46 < 154 from by decide)).trans (congrArg some (hdep 3 (by kernel_rfl)))
                have E52 : a1.tmps[52]?.getD undef = .int .i64 am := by rw [← ha1]; exact (putsL_in2 _ _ _ _ (by decide) (show 52 < 154 from by decide)).trans (hdep 9 (by kernel_rfl))
                have E54 : a1.tmps[54]?.getD undef = .int .i64 am := by rw [← ha1]; exact (putsL_in2 _ _ _ _ (by decide) (show 54 < 154 from by decide)).trans (hdep 11 (by kernel_rfl))
                exact wpOp_valG rfl rfl (yielded_of rfl G3) (v := .bool false) (w' := W) (by simp [execOp, go_sem, E52, E54]) ⟨hIW, fun _ h => h, Or.inl ⟨_, by decide, rfl, updF_same _ _ _⟩⟩
              | 13, _, hdep =>
                have E46 : a1.tmps[46]?.getD undef = .bool false := by rw [← ha1]; exact (putsL_in2 _ _ _ _ (by decide) (show 46 < 154 from by decide)).trans (hdep 3 (by kernel_rfl))
                have E55 : a1.tmps[55]?.getD undef = .bool false := by rw [← ha1]; exact (putsL_in2 _ _ _ _ (by decide) (show 55 < 154 from by decide)).trans (hdep 12 (by kernel_rfl))
                exact wpOp_val rfl rfl (v := .bool false) (w' := W) (by simp [execOp, go_sem, E46, E55]) ⟨hIW, fun _ h => h, Or.inl ⟨_, by decide, rfl, updF_same _ _ _⟩⟩
              | iq + 14, h, _ => exact absurd h (by omega)
            case refine_2 =>
              intro f W hIW hR
              have h56 : f 56 = .bool false := hR 13 (show 13 < 14 from by decide)
              simp only [putsL, List.foldl_cons, List.foldl_nil, Act.put, List.setIfInBounds_toArray, List.set_cons_zero, List.set_cons_succ]
              go_wp2
              go_meet
              exact ⟨(by first | rfl | exact h56), Lib.hid hIW⟩
          case rest =>
          obtain ⟨rfl, HJX⟩ := hcut
          have HBX := Lib.hid (HBI5.out.trans ((HJO.out _ HJX.out).mono HBI5.out.size))
          go_wp2
          go_roundw
          case rel => exact ⟨j + 1, s + am, rfl, by first | rfl | go_num, by omega, Lib.hid (by rw [HTK.out, HS.out]), HBX⟩
          case measure => simp [RowKit.intOf]; omega
        · obtain rfl : j = nb := by omega
          have hs0 : s = 0 := by
            have h := HS.out
            rw [show (balsM g).take j = balsM g by rw [HNB.out, List.take_length]] at h
            rw [h, HZ.out]
          subst hs0
          have HBE := Lib.hid (HB4.out.trans (HBI.out.mono HB4.out.size))
          have hwe : IntKind.i64.wrap (ee + 1) = ee + 1 := IntWalk.i64_in _ (by omega)
          go_wp2
          go_roundw
          case rel => exact ⟨ee + 1, by first | rfl | go_num, by omega, by omega, HBE⟩
          case measure => simp [RowKit.intOf]; omega
    · obtain rfl : ee = 4 := by omega
      obtain ⟨w4, hw4⟩ : ∃ x, x = wr := ⟨_, rfl⟩
      rw [← hw4] at HB ⊢
      clear hw4 hlt he0 he4
      go_wp2
      go_loopw [61] (fun iv wi => ∃ j : Int, iv = .int .i64 j ∧ 0 ≤ j ∧ j ≤ 4 ∧ Hid (Below w4.heap.size w4 wi)) (fun iv _ => (4 - RowKit.intOf iv).toNat)
      case atStart => exact ⟨0, rfl, by omega, by omega, Lib.hid (Below.refl _ _)⟩
      case round =>
        obtain ⟨j, rfl, hj0, hj4, HBI⟩ := hrel
        by_cases hlt2 : j < 4
        · go_upto_region 19 with fail
          obtain ⟨k0, k1, k2, k3⟩ := index_four wr
          go_cut [13] (fun av wx => ∃ ac : Int, av = .int .i64 ac ∧ Hid (100 ≤ ac ∧ ac ≤ 599) ∧ wr = wx)
          case first =>
            rcases (show j = 0 ∨ j = 1 ∨ j = 2 ∨ j = 3 by omega) with rfl | rfl | rfl | rfl <;> (go_wp2; go_meet; exact ⟨_, rfl, Lib.hid (by omega), rfl⟩)
          case rest =>
          obtain ⟨ac, rfl, HAC, rfl⟩ := hcut
          clear k0 k1 k2 k3
          have hac := HAC.out
          have HB5 := Lib.hid (HB.out.trans (HBI.out.mono HB.out.size))
          obtain ⟨wj, hwj⟩ : ∃ x, x = wr := ⟨_, rfl⟩
          rw [← hwj] at HB5 HBI ⊢
          clear hwj
          go_wp2
          go_loopw [14, 15] (fun sv ev wi => ∃ (m : Nat) (s : Int), sv = .int .i64 s ∧ ev = .int .i64 ((m : Int) + 1) ∧ m ≤ 3 ∧ Hid (s = upM (byDay dy) ac l m) ∧ Hid (Below wj.heap.size wj wi)) (fun _ ev _ => (4 - RowKit.intOf ev).toNat)
          case atStart => exact ⟨0, 0, rfl, rfl, by omega, Lib.hid rfl, Lib.hid (Below.refl _ _)⟩
          case round =>
            obtain ⟨m, s, rfl, rfl, hm3, HS, HBM⟩ := hrel
            have HB6 := Lib.hid (HB5.out.trans (HBM.out.mono HB5.out.size))
            have hxl := obj_below HX3.out HB6.out
            have u0 := obj_cell hxl 0
            simp at u0
            have hsb := upM_bound (f := byDay dy) (a := ac) HOK.out m
            rw [← HS.out] at hsb
            by_cases hlt3 : m < 3
            · have hOF := lgOf_right HOK.out ((m : Int) + 1) ac dy (.slice av nl cv) wr (ListAt.below HL3.out HB6.out) (by omega) (by omega)
              have hob := ofM_small HOK.out ((m : Int) + 1) (byDay dy) ac
              obtain ⟨y, hy⟩ : ∃ y, y = ofM ((m : Int) + 1) (byDay dy) ac l := ⟨_, rfl⟩
              rw [← hy] at hOF hob
              have HOF := Lib.hid hOF
              have HY := Lib.hid hy
              have hws : IntKind.i64.wrap (s + y) = s + y := IntWalk.i64_in _ (by omega)
              have hwm1 : IntKind.i64.wrap ((m : Int) + 1 + 1) = (m : Int) + 1 + 1 := IntWalk.i64_in _ (by omega)
              have hle : (m : Int) + 1 ≤ 3 := by omega
              clear hOF hy hxl
              go_wp2_with fail
              refine (HOF.out).mono ?_
              rintro e w7 ⟨rfl, hb7⟩
              have HB7 := Lib.hid (HBM.out.trans (hb7.mono HBM.out.size))
              clear hb7 u0
              go_wp2
              go_roundw
              case rel => exact ⟨m + 1, s + y, rfl, by first | rfl | go_num, by omega, Lib.hid (by rw [upM, HS.out, HY.out]), HB7⟩
              case measure => simp [RowKit.intOf]; omega
            · obtain rfl : m = 3 := by omega
              have hOF := lgOf_right HOK.out 0 ac dy (.slice av nl cv) wr (ListAt.below HL3.out HB6.out) (by omega) (by omega)
              have hs : ofM 0 (byDay dy) ac l = s := by
                rw [HS.out, ← ofM_three (byDay dy) ac fun p hp => ⟨by have := (HOK.out.mem p hp).ent; omega, HIN.out.ent p hp⟩]
                simp [upM]
              rw [hs] at hOF
              have HOF := Lib.hid hOF
              have hwj1 : IntKind.i64.wrap (j + 1) = j + 1 := IntWalk.i64_in _ (by omega)
              clear hOF hs hxl
              go_wp2_with fail
              refine (HOF.out).mono ?_
              rintro e w7 ⟨rfl, hb7⟩
              have HB7 := Lib.hid (HBI.out.trans ((HBM.out.trans (hb7.mono HBM.out.size)).mono HBI.out.size))
              clear hb7 u0
              go_wp2
              go_roundw
              case rel => exact ⟨j + 1, by first | rfl | go_num, by omega, by omega, HB7⟩
              case measure => simp [RowKit.intOf]; omega
        · obtain rfl : j = 4 := by omega
          have HB5 := Lib.hid (HB.out.trans (HBI.out.mono HB.out.size))
          obtain ⟨w5, hw5⟩ : ∃ x, x = wr := ⟨_, rfl⟩
          rw [← hw5] at HB5 ⊢
          clear hw5 HBI HB hj0 hj4 hlt2
          have HD5 := Lib.hid (HD3.out.trans (HB5.out.mono HD3.out.size))
          have HW5 := Lib.hid (HB2.out.trans (HD5.out.mono HB2.out.size))
          have HS5 := Lib.hid (HSRC.out.below HD5.out)
          have HPO := Lib.hid (sPosting_any tb ((nl : Int) + 1) 900 3 w5 HS5.out (by omega) (by omega) (by omega))
          have hxl := obj_below HX3.out HB5.out
          have u0 := obj_cell hxl 0
          simp at u0
          have hwn : IntKind.i64.wrap ((nl : Int) + 1) = (nl : Int) + 1 := IntWalk.i64_in _ (by omega)
          have HXL5 := Lib.hid hxl
          clear hxl
          go_wp2_with fail
          refine (HPO.out).mono ?_
          rintro e w6 ⟨p, rfl, hpo, hpn, hpd, hpe, hsi6⟩
          have HL6 := Lib.hid (PstsAt.turn (ListAt.below HL3.out HB5.out) HS5.out hsi6.old)
          have HX6 := Lib.hid (obj_turn HXL5.out hsi6.old HNE.out)
          have HB6 := Lib.hid (HW5.out.grown hsi6.old HW5.out.size (fun q e => by injection e with e; rw [← e, ← HTB.out]; exact Nat.le_refl _))
          have hlast : (lastP l).day ≤ p.day := by have := HIN.out.day; rw [hpd]; omega
          have HOX : Hid (LdgOk (l ++ [p])) := Lib.hid (HOK.out.snoc (by rw [← HNL.out]; omega) hpo (by rw [hpn, HNL.out]) hlast)
          have hPO := fun W (hW : Below w6.heap.size w6 W) => lgPost_right HOK.out (by rw [← HNL.out]; omega) hpo (by rw [hpn, HNL.out]) hlast (.slice av nl cv) W (ListAt.below HL6.out hW)
          have hd0 : byDay 900 p.day = true := by rw [hpd]; exact decide_eq_true (by omega)
          have hD := ofM_debit l hpo hd0
          have hC := ofM_credit l hpo hd0
          have hent := hpo.ent
          obtain ⟨r3, hr3⟩ : ∃ r, p.ent.tmod 3 = r := ⟨_, rfl⟩
          have hr30 : 0 ≤ r3 := by rw [← hr3]; exact Int.tmod_nonneg _ (by omega)
          have hr31 : r3 < 3 := by rw [← hr3]; exact Int.tmod_lt_of_pos _ (by omega)
          obtain ⟨oe, hoe⟩ : ∃ x, x = r3 + 1 := ⟨_, rfl⟩
          have hne : p.ent ≠ oe := by
            have := Int.tmod_eq_emod_of_nonneg (a := p.ent) (b := 3) (by omega)
            omega
          have hO := ofM_other (f := byDay 900) (p := p) l p.deb (e := oe) (by omega) hne
          obtain ⟨e1, he1⟩ : ∃ x, x = ofM p.ent (byDay 900) p.deb (l ++ [p]) := ⟨_, rfl⟩
          obtain ⟨d1, hd1⟩ : ∃ x, x = ofM p.ent (byDay 900) p.deb l := ⟨_, rfl⟩
          obtain ⟨e2, he2⟩ : ∃ x, x = ofM p.ent (byDay 900) p.crd (l ++ [p]) := ⟨_, rfl⟩
          obtain ⟨d2, hd2⟩ : ∃ x, x = ofM p.ent (byDay 900) p.crd l := ⟨_, rfl⟩
          obtain ⟨d3, hd3⟩ : ∃ x, x = ofM oe (byDay 900) p.deb l := ⟨_, rfl⟩
          have he3 : ofM oe (byDay 900) p.deb (l ++ [p]) = d3 := by rw [hO, hd3]
          have s1 := ofM_small HOX.out p.ent (byDay 900) p.deb
          have s2 := ofM_small HOX.out p.ent (byDay 900) p.crd
          rw [← he1, ← hd1] at hD
          rw [← he2, ← hd2] at hC
          rw [← he1] at s1
          rw [← he2] at s2
          have hw1 : IntKind.i64.wrap (d1 + p.amt) = e1 := by rw [hD]; exact IntWalk.i64_in _ (by omega)
          have hw2 : IntKind.i64.wrap (d2 - p.amt) = e2 := by rw [hC]; exact IntWalk.i64_in _ (by omega)
          have hwr3 : IntKind.i64.wrap r3 = r3 := IntWalk.i64_in _ (by omega)
          have hwo : IntKind.i64.wrap (r3 + 1) = oe := by rw [hoe]; exact IntWalk.i64_in _ (by omega)
          have hdeb := hpo.deb
          have hcrd := hpo.crd
          have HLA : Hid (∀ W u, PstsAt W u (l ++ [p]) → PstsAt W u (l ++ [p])) := Lib.hid fun W u h => h
          obtain ⟨lp, hlp⟩ : ∃ x, x = l ++ [p] := ⟨_, rfl⟩
          rw [← hlp] at HOX he1 he2 he3 hPO HLA
          have hlpn : lp.length = nl + 1 := by rw [hlp, HNL.out]; simp
          rw [← HNL.out] at hPO
          have HLP := Lib.hid hlpn
          have HHE1 := Lib.hid he1
          have HHD1 := Lib.hid hd1
          have HHE2 := Lib.hid he2
          have HHD2 := Lib.hid hd2
          have HHE3 := Lib.hid he3
          have HHD3 := Lib.hid hd3
          have HPX : Hid (∀ W, Below w6.heap.size w6 W → Calls Try.prog 13 #[.agg #[.slice av nl cv], .agg (pstC p).toArray] W fun e w' => ∃ (aX : Option Addr) (nX cX : Nat), e = .returned (.tuple #[.agg #[.slice aX nX cX], .int .i64 0]) ∧ PstsAt w' (.slice aX nX cX) lp ∧ Below W.heap.size W w') := Lib.hid fun W hW => by
            refine (hPO W hW).mono ?_
            rintro e w' ⟨u, h1, h2, h3⟩
            have h4 : PstsAt w' u lp := ListAt.owns (by rw [hlpn]; exact h2)
            obtain ⟨aX, cX, rfl, -, -⟩ := PstsAt.open h4
            exact ⟨aX, _, cX, h1, h4, h3⟩
          clear he1 hd1 he2 hd2 he3 hd3 hO hD hC s1 s2 hPO hlp hlpn hd0 hlast hne hpn hpd hpe hpo hent hr30 hr31 hsi6 u0 hoe
          obtain ⟨x0, x1, x2, x3, x4, x5, x6, x7⟩ := p
          simp only [pstC] at HPX ⊢
          simp only at hr3 hw1 hw2 hdeb hcrd HHE1 HHD1 HHE2 HHD2 HHE3 HHD3
          obtain ⟨w7, hw7⟩ : ∃ x, x = w6.alloc (.cells #[.int .i64 x0, .int .i64 x1, .int .i64 x2, .int .i64 x3, .int .i64 x4, .int .i64 x5, .int .i64 x6, .int .i64 x7] 37) := ⟨_, rfl⟩
          obtain ⟨bP, hbP⟩ : ∃ x, x = w6.heap.size := ⟨_, rfl⟩
          have HP7 : Hid (w7.heap[bP]? = some (.cells #[.int .i64 x0, .int .i64 x1, .int .i64 x2, .int .i64 x3, .int .i64 x4, .int .i64 x5, .int .i64 x6, .int .i64 x7] 37 (0, 0))) := Lib.hid (by rw [hw7, hbP]; exact heap_alloc_new _ _)
          have HB7 : Hid (Below w6.heap.size w6 w7) := Lib.hid (by rw [hw7]; exact below_alloc _ _)
          have HX7 := Lib.hid (obj_below HX6.out HB7.out)
          have HW7 := Lib.hid hw7
          have HBP := Lib.hid hbP
          clear hw7 hbP
          go_upto_region 29 with fail
          rw [← HW7.out, ← HBP.out]
          have hxl := HX7.out
          have hxp := HP7.out
          have u0 := obj_cell hxl 0
          have z0 := obj_cell hxp 0
          have z1 := obj_cell hxp 1
          have z2 := obj_cell hxp 2
          have z3 := obj_cell hxp 3
          have z4 := obj_cell hxp 4
          have z5 := obj_cell hxp 5
          have z6 := obj_cell hxp 6
          have z7 := obj_cell hxp 7
          simp at u0 z0 z1 z2 z3 z4 z5 z6 z7
          clear hxl hxp
          go_wp2_with fail
          refine (HPX.out _ HB7.out).mono ?_
          rintro e w8 ⟨aX, nX, cX, rfl, hlx, hb8⟩
          obtain ⟨w9, hw9⟩ : ∃ x, x = w8.alloc (.cells #[.slice aX nX cX] 28) := ⟨_, rfl⟩
          obtain ⟨bX, hbX⟩ : ∃ x, x = w8.heap.size := ⟨_, rfl⟩
          have HXX : Hid (w9.heap[bX]? = some (.cells #[.slice aX nX cX] 28 (0, 0))) := Lib.hid (by rw [hw9, hbX]; exact heap_alloc_new _ _)
          have HB9 : Hid (Below w7.heap.size w7 w9) := Lib.hid (by rw [hw9]; exact hb8.alloc hb8.size _)
          have HLX : Hid (PstsAt w9 (.slice aX nX cX) lp) := Lib.hid (by rw [hw9]; exact ListAt.below hlx (below_alloc _ _))
          have HL9 : Hid (PstsAt w9 (.slice av nl cv) l) := Lib.hid (ListAt.below (ListAt.below HL6.out HB7.out) HB9.out)
          have HXL := Lib.hid (obj_below HX7.out HB9.out)
          have HXP := Lib.hid (obj_below HP7.out HB9.out)
          have HW9 := Lib.hid hw9
          have HBX := Lib.hid hbX
          have HEND : Hid (Below w.heap.size w w9) := Lib.hid (HB6.out.trans ((HB7.out.trans (HB9.out.mono HB7.out.size)).mono HB6.out.size))
          clear hw9 hbX hlx hb8 u0 z0 z1 z2 z3 z4 z5 z6 z7 HPX HPO
          go_upto_region 30 with fail
          rw [← HW9.out, ← HBX.out]
          try simp only [List.append_eq, List.cons_append, List.nil_append]
          obtain ⟨J, hJ⟩ : ∃ J, J = fun W : World => Below w9.heap.size w9 W := ⟨_, rfl⟩
          have HJO : Hid (∀ W, J W → Below w9.heap.size w9 W) := Lib.hid fun W hW => by rw [hJ] at hW; exact hW
          have HJI : Hid (∀ W, Below w9.heap.size w9 W → J W) := Lib.hid fun W hW => by rw [hJ]; exact hW
          have HJD : Hid (∀ W, J W → J W.drew) := Lib.hid fun W hW => HJI.out _ ((HJO.out W hW).drew)
          have HJ0 : Hid (J w9) := Lib.hid (HJI.out _ (Below.refl _ _))
          have HCX : Hid (∀ W, J W → ∀ q, W.cell? ⟨bX, q, none⟩ = #[.slice aX nX cX][q]?) := Lib.hid fun W hW q => obj_cell (obj_below HXX.out (HJO.out W hW)) q
          have HCL : Hid (∀ W, J W → ∀ q, W.cell? ⟨bL, q, none⟩ = #[.slice av nl cv][q]?) := Lib.hid fun W hW q => obj_cell (obj_below HXL.out (HJO.out W hW)) q
          have HCP : Hid (∀ W, J W → ∀ q, W.cell? ⟨bP, q, none⟩ = #[.int .i64 x0, .int .i64 x1, .int .i64 x2, .int .i64 x3, .int .i64 x4, .int .i64 x5, .int .i64 x6, .int .i64 x7][q]?) := Lib.hid fun W hW q => obj_cell (obj_below HXP.out (HJO.out W hW)) q
          have HO1 : Hid (∀ W, J W → Calls Try.prog 11 #[.agg #[.slice aX nX cX], .int .i64 x2, .int .i64 x3, .int .i64 900] W fun e w' => e = .returned (.int .i64 e1) ∧ J w') := Lib.hid fun W hW => by
            have h := lgOf_right HOX.out x2 x3 900 (.slice aX nX cX) W (ListAt.below HLX.out (HJO.out W hW)) (by omega) (by omega)
            rw [← HHE1.out] at h
            exact h.mono fun e w' g => ⟨g.1, HJI.out _ ((HJO.out W hW).trans (g.2.mono (HJO.out W hW).size))⟩
          have HO2 : Hid (∀ W, J W → Calls Try.prog 11 #[.agg #[.slice av nl cv], .int .i64 x2, .int .i64 x3, .int .i64 900] W fun e w' => e = .returned (.int .i64 d1) ∧ J w') := Lib.hid fun W hW => by
            have h := lgOf_right HOK.out x2 x3 900 (.slice av nl cv) W (ListAt.below HL9.out (HJO.out W hW)) (by omega) (by omega)
            rw [← HHD1.out] at h
            exact h.mono fun e w' g => ⟨g.1, HJI.out _ ((HJO.out W hW).trans (g.2.mono (HJO.out W hW).size))⟩
          have HO3 : Hid (∀ W, J W → Calls Try.prog 11 #[.agg #[.slice aX nX cX], .int .i64 x2, .int .i64 x4, .int .i64 900] W fun e w' => e = .returned (.int .i64 e2) ∧ J w') := Lib.hid fun W hW => by
            have h := lgOf_right HOX.out x2 x4 900 (.slice aX nX cX) W (ListAt.below HLX.out (HJO.out W hW)) (by omega) (by omega)
            rw [← HHE2.out] at h
            exact h.mono fun e w' g => ⟨g.1, HJI.out _ ((HJO.out W hW).trans (g.2.mono (HJO.out W hW).size))⟩
          have HO4 : Hid (∀ W, J W → Calls Try.prog 11 #[.agg #[.slice av nl cv], .int .i64 x2, .int .i64 x4, .int .i64 900] W fun e w' => e = .returned (.int .i64 d2) ∧ J w') := Lib.hid fun W hW => by
            have h := lgOf_right HOK.out x2 x4 900 (.slice av nl cv) W (ListAt.below HL9.out (HJO.out W hW)) (by omega) (by omega)
            rw [← HHD2.out] at h
            exact h.mono fun e w' g => ⟨g.1, HJI.out _ ((HJO.out W hW).trans (g.2.mono (HJO.out W hW).size))⟩
          have HO5 : Hid (∀ W, J W → Calls Try.prog 11 #[.agg #[.slice aX nX cX], .int .i64 oe, .int .i64 x3, .int .i64 900] W fun e w' => e = .returned (.int .i64 d3) ∧ J w') := Lib.hid fun W hW => by
            have h := lgOf_right HOX.out oe x3 900 (.slice aX nX cX) W (ListAt.below HLX.out (HJO.out W hW)) (by omega) (by omega)
            rw [HHE3.out] at h
            exact h.mono fun e w' g => ⟨g.1, HJI.out _ ((HJO.out W hW).trans (g.2.mono (HJO.out W hW).size))⟩
          have HO6 : Hid (∀ W, J W → Calls Try.prog 11 #[.agg #[.slice av nl cv], .int .i64 oe, .int .i64 x3, .int .i64 900] W fun e w' => e = .returned (.int .i64 d3) ∧ J w') := Lib.hid fun W hW => by
            have h := lgOf_right HOK.out oe x3 900 (.slice av nl cv) W (ListAt.below HL9.out (HJO.out W hW)) (by omega) (by omega)
            rw [← HHD3.out] at h
            exact h.mono fun e w' g => ⟨g.1, HJI.out _ ((HJO.out W hW).trans (g.2.mono (HJO.out W hW).size))⟩
          have HC9 : Hid (∀ W, J W → Calls Try.prog 14 #[] W fun e w' => e = .returned (.bool true) ∧ J w') := Lib.hid fun W hW =>
            (HSN.out W).mono fun e w' g => ⟨g.1, HJI.out _ ((HJO.out W hW).trans (g.2.mono (HJO.out W hW).size))⟩
          have HFIN : Hid (∀ W, J W → Below w.heap.size w W) := Lib.hid fun W hW => HEND.out.trans ((HJO.out W hW).mono HEND.out.size)
          have egX := enters_of Try.func14 (by kernel_rfl) rfl
          clear hJ
          refine wp_region_props [94, 95, 96, 97, 98, 99, 100, 101, 102, 103, 104, 105, 106, 107, 108, 109, 110, 111, 112, 113, 114, 115, 116, 117, 118, 119, 120, 121, 122, 123, 124, 125, 126, 127, 128, 129, 130, 131, 132, 133, 134, 135, 136, 137, 138, 139, 140, 141, 142, 143, 144, 145, 146, 147, 148, 149, 150, 151, 152, 153, 4] (slotS [94, 95, 96, 97, 98, 99, 100, 101, 102, 103, 104, 105, 106, 107, 108, 109, 110, 111, 112, 113, 114, 115, 116, 117, 118, 119, 120, 121, 122, 123, 124, 125, 126, 127, 128, 129, 130, 131, 132, 133, 134, 135, 136, 137, 138, 139, 140, 141, 142, 143, 144, 145, 146, 147, 148, 149, 150, 151, 152, 153, 4]) (readsS [94, 95, 96, 97, 98, 99, 100, 101, 102, 103, 104, 105, 106, 107, 108, 109, 110, 111, 112, 113, 114, 115, 116, 117, 118, 119, 120, 121, 122, 123, 124, 125, 126, 127, 128, 129, 130, 131, 132, 133, 134, 135, 136, 137, 138, 139, 140, 141, 142, 143, 144, 145, 146, 147, 148, 149, 150, 151, 152, 153, 4]) (RTs [94, 95, 96, 97, 98, 99, 100, 101, 102, 103, 104, 105, 106, 107, 108, 109, 110, 111, 112, 113, 114, 115, 116, 117, 118, 119, 120, 121, 122, 123, 124, 125, 126, 127, 128, 129, 130, 131, 132, 133, 134, 135, 136, 137, 138, 139, 140, 141, 142, 143, 144, 145, 146, 147, 148, 149, 150, 151, 152, 153, 4] [.int .i64 0, .bool true, .bool true, .agg #[.slice aX nX cX], .pointer (some ⟨bP, 2, none⟩), .int .i64 x2, .pointer (some ⟨bP, 3, none⟩), .int .i64 x3, .int .i64 e1, .agg #[.slice av nl cv], .pointer (some ⟨bP, 2, none⟩), .int .i64 x2, .pointer (some ⟨bP, 3, none⟩), .int .i64 x3, .int .i64 d1, .pointer (some ⟨bP, 5, none⟩), .int .i64 x5, .int .i64 e1, .bool true, .bool true, .bool true, .agg #[.slice aX nX cX], .pointer (some ⟨bP, 2, none⟩), .int .i64 x2, .pointer (some ⟨bP, 4, none⟩), .int .i64 x4, .int .i64 e2, .agg #[.slice av nl cv], .pointer (some ⟨bP, 2, none⟩), .int .i64 x2, .pointer (some ⟨bP, 4, none⟩), .int .i64 x4, .int .i64 d2, .pointer (some ⟨bP, 5, none⟩), .int .i64 x5, .int .i64 e2, .bool true, .bool true, .bool true, .agg #[.slice aX nX cX], .pointer (some ⟨bP, 2, none⟩), .int .i64 x2, .int .i64 r3, .int .i64 oe, .pointer (some ⟨bP, 3, none⟩), .int .i64 x3, .int .i64 d3, .agg #[.slice av nl cv], .pointer (some ⟨bP, 2, none⟩), .int .i64 x2, .int .i64 r3, .int .i64 oe, .pointer (some ⟨bP, 3, none⟩), .int .i64 x3, .int .i64 d3, .bool true, .bool true, .bool true, .bool true, .bool true, .bool true]) J (by kernel_rfl) (by kernel_rfl) (by kernel_rfl) (HJD.out _ HJ0.out) (fun j f q v W hq h => RTs.upd hq h) ?_ ?_
          case refine_1 =>
            intro iq hiq f W hIW hdep
            have hiq' : iq < 61 := hiq
            generalize ha1 : putsL _ [94, 95, 96, 97, 98, 99, 100, 101, 102, 103, 104, 105, 106, 107, 108, 109, 110, 111, 112, 113, 114, 115, 116, 117, 118, 119, 120, 121, 122, 123, 124, 125, 126, 127, 128, 129, 130, 131, 132, 133, 134, 135, 136, 137, 138, 139, 140, 141, 142, 143, 144, 145, 146, 147, 148, 149, 150, 151, 152, 153, 4] f = a1
            match iq, hiq', hdep with
            | 0, _, hdep =>
              have E18 : a1.tmps[18]?.getD undef = .int .i64 0 := by rw [← ha1]; exact (putsL_out2 _ _ _ _ (by decide)).trans rfl
              exact wpOp_val rfl rfl (v := .int .i64 0) (w' := W) (by simp [execOp, go_sem, E18]) ⟨hIW, fun _ h => h, Or.inl ⟨_, by decide, rfl, updF_same _ _ _⟩⟩
            | 1, _, hdep =>
              have E94 : a1.tmps[94]?.getD undef = .int .i64 0 := by rw [← ha1]; exact (putsL_in2 _ _ _ _ (by decide) (show 94 < 154 from by decide)).trans (hdep 0 (by kernel_rfl))
              exact wpOp_val rfl rfl (v := .bool true) (w' := W) (by simp [execOp, go_sem, E94]) ⟨hIW, fun _ h => h, Or.inl ⟨_, by decide, rfl, updF_same _ _ _⟩⟩
            | 2, _, hdep =>
              have E95 : a1.tmps[95]?.getD undef = .bool true := by rw [← ha1]; exact (putsL_in2 _ _ _ _ (by decide) (show 95 < 154 from by decide)).trans (hdep 1 (by kernel_rfl))
              exact wpOp_val rfl rfl (v := .bool true) (w' := W) (by simp [execOp, go_sem, E95]) ⟨hIW, fun _ h => h, Or.inl ⟨_, by decide, rfl, updF_same _ _ _⟩⟩
            | 3, _, hdep =>
              have G2 : a1.tmps[96]? = some (.bool true) := by rw [← ha1]; exact (putsL_some _ _ _ _ (by decide) (show 96 < 154 from by decide)).trans (congrArg some (hdep 2 (by kernel_rfl)))
              have E17 : a1.tmps[17]?.getD undef = .pointer (some ⟨bX, 0, none⟩) := by rw [← ha1]; exact (putsL_out2 _ _ _ _ (by decide)).trans rfl
              have v0 : W.cell? ⟨bX, 0, none⟩ = some (.slice aX nX cX) := by simpa using HCX.out W hIW 0
              exact wpOp_valG rfl rfl (yielded_of rfl G2) (v := .agg #[.slice aX nX cX]) (w' := W) (by simp [execOp, go_sem, E17, v0]) ⟨hIW, fun _ h => h, Or.inl ⟨_, by decide, rfl, updF_same _ _ _⟩⟩
            | 4, _, hdep =>
              have G2 : a1.tmps[96]? = some (.bool true) := by rw [← ha1]; exact (putsL_some _ _ _ _ (by decide) (show 96 < 154 from by decide)).trans (congrArg some (hdep 2 (by kernel_rfl)))
              have E16 : a1.tmps[16]?.getD undef = .pointer (some ⟨bP, 0, none⟩) := by rw [← ha1]; exact (putsL_out2 _ _ _ _ (by decide)).trans rfl
              exact wpOp_valG rfl rfl (yielded_of rfl G2) (v := .pointer (some ⟨bP, 2, none⟩)) (w' := W) (by simp [execOp, go_sem, E16]) ⟨hIW, fun _ h => h, Or.inl ⟨_, by decide, rfl, updF_same _ _ _⟩⟩
            | 5, _, hdep =>
              have G2 : a1.tmps[96]? = some (.bool true) := by rw [← ha1]; exact (putsL_some _ _ _ _ (by decide) (show 96 < 154 from by decide)).trans (congrArg some (hdep 2 (by kernel_rfl)))
              have E98 : a1.tmps[98]?.getD undef = .pointer (some ⟨bP, 2, none⟩) := by rw [← ha1]; exact (putsL_in2 _ _ _ _ (by decide) (show 98 < 154 from by decide)).trans (hdep 4 (by kernel_rfl))
              have v2 : W.cell? ⟨bP, 2, none⟩ = some (.int .i64 x2) := by simpa using HCP.out W hIW 2
              exact wpOp_valG rfl rfl (yielded_of rfl G2) (v := .int .i64 x2) (w' := W) (by simp [execOp, go_sem, E98, v2]) ⟨hIW, fun _ h => h, Or.inl ⟨_, by decide, rfl, updF_same _ _ _⟩⟩
            | 6, _, hdep =>
              have G2 : a1.tmps[96]? = some (.bool true) := by rw [← ha1]; exact (putsL_some _ _ _ _ (by decide) (show 96 < 154 from by decide)).trans (congrArg some (hdep 2 (by kernel_rfl)))
              have E16 : a1.tmps[16]?.getD undef = .pointer (some ⟨bP, 0, none⟩) := by rw [← ha1]; exact (putsL_out2 _ _ _ _ (by decide)).trans rfl
              exact wpOp_valG rfl rfl (yielded_of rfl G2) (v := .pointer (some ⟨bP, 3, none⟩)) (w' := W) (by simp [execOp, go_sem, E16]) ⟨hIW, fun _ h => h, Or.inl ⟨_, by decide, rfl, updF_same _ _ _⟩⟩
            | 7, _, hdep =>
              have G2 : a1.tmps[96]? = some (.bool true) := by rw [← ha1]; exact (putsL_some _ _ _ _ (by decide) (show 96 < 154 from by decide)).trans (congrArg some (hdep 2 (by kernel_rfl)))
              have E100 : a1.tmps[100]?.getD undef = .pointer (some ⟨bP, 3, none⟩) := by rw [← ha1]; exact (putsL_in2 _ _ _ _ (by decide) (show 100 < 154 from by decide)).trans (hdep 6 (by kernel_rfl))
              have v3 : W.cell? ⟨bP, 3, none⟩ = some (.int .i64 x3) := by simpa using HCP.out W hIW 3
              exact wpOp_valG rfl rfl (yielded_of rfl G2) (v := .int .i64 x3) (w' := W) (by simp [execOp, go_sem, E100, v3]) ⟨hIW, fun _ h => h, Or.inl ⟨_, by decide, rfl, updF_same _ _ _⟩⟩
            | 8, _, hdep =>
              have G2 : a1.tmps[96]? = some (.bool true) := by rw [← ha1]; exact (putsL_some _ _ _ _ (by decide) (show 96 < 154 from by decide)).trans (congrArg some (hdep 2 (by kernel_rfl)))
              have E97 : a1.tmps[97]?.getD undef = .agg #[.slice aX nX cX] := by rw [← ha1]; exact (putsL_in2 _ _ _ _ (by decide) (show 97 < 154 from by decide)).trans (hdep 3 (by kernel_rfl))
              have E99 : a1.tmps[99]?.getD undef = .int .i64 x2 := by rw [← ha1]; exact (putsL_in2 _ _ _ _ (by decide) (show 99 < 154 from by decide)).trans (hdep 5 (by kernel_rfl))
              have E101 : a1.tmps[101]?.getD undef = .int .i64 x3 := by rw [← ha1]; exact (putsL_in2 _ _ _ _ (by decide) (show 101 < 154 from by decide)).trans (hdep 7 (by kernel_rfl))
              refine wpOp_callG rfl rfl (yielded_of rfl G2) (n := 11) (vs := #[.agg #[.slice aX nX cX], .int .i64 x2, .int .i64 x3, .int .i64 900]) (by have := egO #[.agg #[.slice aX nX cX], .int .i64 x2, .int .i64 x3, .int .i64 900] W; simp [execOp, E97, E99, E101, resolve, invoke, go_sem] <;> exact this) ((HO1.out W hIW).mono fun e w' h => (⟨_, h.1, rfl, h.2⟩ : ∃ v, e = .returned v ∧ (v = .int .i64 e1 ∧ J w'))) ?_
              rintro v w' ⟨rfl, hI'⟩
              exact ⟨hI', fun _ h => h, Or.inl ⟨_, by decide, rfl, updF_same _ _ _⟩⟩
            | 9, _, hdep =>
              have G2 : a1.tmps[96]? = some (.bool true) := by rw [← ha1]; exact (putsL_some _ _ _ _ (by decide) (show 96 < 154 from by decide)).trans (congrArg some (hdep 2 (by kernel_rfl)))
              have E6 : a1.tmps[6]?.getD undef = .pointer (some ⟨bL, 0, none⟩) := by rw [← ha1]; exact (putsL_out2 _ _ _ _ (by decide)).trans rfl
              have v0 : W.cell? ⟨bL, 0, none⟩ = some (.slice av nl cv) := by simpa using HCL.out W hIW 0
              exact wpOp_valG rfl rfl (yielded_of rfl G2) (v := .agg #[.slice av nl cv]) (w' := W) (by simp [execOp, go_sem, E6, v0]) ⟨hIW, fun _ h => h, Or.inl ⟨_, by decide, rfl, updF_same _ _ _⟩⟩
            | 10, _, hdep =>
              have G2 : a1.tmps[96]? = some (.bool true) := by rw [← ha1]; exact (putsL_some _ _ _ _ (by decide) (show 96 < 154 from by decide)).trans (congrArg some (hdep 2 (by kernel_rfl)))
              have E16 : a1.tmps[16]?.getD undef = .pointer (some ⟨bP, 0, none⟩) := by rw [← ha1]; exact (putsL_out2 _ _ _ _ (by decide)).trans rfl
              exact wpOp_valG rfl rfl (yielded_of rfl G2) (v := .pointer (some ⟨bP, 2, none⟩)) (w' := W) (by simp [execOp, go_sem, E16]) ⟨hIW, fun _ h => h, Or.inl ⟨_, by decide, rfl, updF_same _ _ _⟩⟩
            | 11, _, hdep =>
              have G2 : a1.tmps[96]? = some (.bool true) := by rw [← ha1]; exact (putsL_some _ _ _ _ (by decide) (show 96 < 154 from by decide)).trans (congrArg some (hdep 2 (by kernel_rfl)))
              have E104 : a1.tmps[104]?.getD undef = .pointer (some ⟨bP, 2, none⟩) := by rw [← ha1]; exact (putsL_in2 _ _ _ _ (by decide) (show 104 < 154 from by decide)).trans (hdep 10 (by kernel_rfl))
              have v2 : W.cell? ⟨bP, 2, none⟩ = some (.int .i64 x2) := by simpa using HCP.out W hIW 2
              exact wpOp_valG rfl rfl (yielded_of rfl G2) (v := .int .i64 x2) (w' := W) (by simp [execOp, go_sem, E104, v2]) ⟨hIW, fun _ h => h, Or.inl ⟨_, by decide, rfl, updF_same _ _ _⟩⟩
            | 12, _, hdep =>
              have G2 : a1.tmps[96]? = some (.bool true) := by rw [← ha1]; exact (putsL_some _ _ _ _ (by decide) (show 96 < 154 from by decide)).trans (congrArg some (hdep 2 (by kernel_rfl)))
              have E16 : a1.tmps[16]?.getD undef = .pointer (some ⟨bP, 0, none⟩) := by rw [← ha1]; exact (putsL_out2 _ _ _ _ (by decide)).trans rfl
              exact wpOp_valG rfl rfl (yielded_of rfl G2) (v := .pointer (some ⟨bP, 3, none⟩)) (w' := W) (by simp [execOp, go_sem, E16]) ⟨hIW, fun _ h => h, Or.inl ⟨_, by decide, rfl, updF_same _ _ _⟩⟩
            | 13, _, hdep =>
              have G2 : a1.tmps[96]? = some (.bool true) := by rw [← ha1]; exact (putsL_some _ _ _ _ (by decide) (show 96 < 154 from by decide)).trans (congrArg some (hdep 2 (by kernel_rfl)))
              have E106 : a1.tmps[106]?.getD undef = .pointer (some ⟨bP, 3, none⟩) := by rw [← ha1]; exact (putsL_in2 _ _ _ _ (by decide) (show 106 < 154 from by decide)).trans (hdep 12 (by kernel_rfl))
              have v3 : W.cell? ⟨bP, 3, none⟩ = some (.int .i64 x3) := by simpa using HCP.out W hIW 3
              exact wpOp_valG rfl rfl (yielded_of rfl G2) (v := .int .i64 x3) (w' := W) (by simp [execOp, go_sem, E106, v3]) ⟨hIW, fun _ h => h, Or.inl ⟨_, by decide, rfl, updF_same _ _ _⟩⟩
            | 14, _, hdep =>
              have G2 : a1.tmps[96]? = some (.bool true) := by rw [← ha1]; exact (putsL_some _ _ _ _ (by decide) (show 96 < 154 from by decide)).trans (congrArg some (hdep 2 (by kernel_rfl)))
              have E103 : a1.tmps[103]?.getD undef = .agg #[.slice av nl cv] := by rw [← ha1]; exact (putsL_in2 _ _ _ _ (by decide) (show 103 < 154 from by decide)).trans (hdep 9 (by kernel_rfl))
              have E105 : a1.tmps[105]?.getD undef = .int .i64 x2 := by rw [← ha1]; exact (putsL_in2 _ _ _ _ (by decide) (show 105 < 154 from by decide)).trans (hdep 11 (by kernel_rfl))
              have E107 : a1.tmps[107]?.getD undef = .int .i64 x3 := by rw [← ha1]; exact (putsL_in2 _ _ _ _ (by decide) (show 107 < 154 from by decide)).trans (hdep 13 (by kernel_rfl))
              refine wpOp_callG rfl rfl (yielded_of rfl G2) (n := 11) (vs := #[.agg #[.slice av nl cv], .int .i64 x2, .int .i64 x3, .int .i64 900]) (by have := egO #[.agg #[.slice av nl cv], .int .i64 x2, .int .i64 x3, .int .i64 900] W; simp [execOp, E103, E105, E107, resolve, invoke, go_sem] <;> exact this) ((HO2.out W hIW).mono fun e w' h => (⟨_, h.1, rfl, h.2⟩ : ∃ v, e = .returned v ∧ (v = .int .i64 d1 ∧ J w'))) ?_
              rintro v w' ⟨rfl, hI'⟩
              exact ⟨hI', fun _ h => h, Or.inl ⟨_, by decide, rfl, updF_same _ _ _⟩⟩
            | 15, _, hdep =>
              have G2 : a1.tmps[96]? = some (.bool true) := by rw [← ha1]; exact (putsL_some _ _ _ _ (by decide) (show 96 < 154 from by decide)).trans (congrArg some (hdep 2 (by kernel_rfl)))
              have E16 : a1.tmps[16]?.getD undef = .pointer (some ⟨bP, 0, none⟩) := by rw [← ha1]; exact (putsL_out2 _ _ _ _ (by decide)).trans rfl
              exact wpOp_valG rfl rfl (yielded_of rfl G2) (v := .pointer (some ⟨bP, 5, none⟩)) (w' := W) (by simp [execOp, go_sem, E16]) ⟨hIW, fun _ h => h, Or.inl ⟨_, by decide, rfl, updF_same _ _ _⟩⟩
            | 16, _, hdep =>
              have G2 : a1.tmps[96]? = some (.bool true) := by rw [← ha1]; exact (putsL_some _ _ _ _ (by decide) (show 96 < 154 from by decide)).trans (congrArg some (hdep 2 (by kernel_rfl)))
              have E109 : a1.tmps[109]?.getD undef = .pointer (some ⟨bP, 5, none⟩) := by rw [← ha1]; exact (putsL_in2 _ _ _ _ (by decide) (show 109 < 154 from by decide)).trans (hdep 15 (by kernel_rfl))
              have v5 : W.cell? ⟨bP, 5, none⟩ = some (.int .i64 x5) := by simpa using HCP.out W hIW 5
              exact wpOp_valG rfl rfl (yielded_of rfl G2) (v := .int .i64 x5) (w' := W) (by simp [execOp, go_sem, E109, v5]) ⟨hIW, fun _ h => h, Or.inl ⟨_, by decide, rfl, updF_same _ _ _⟩⟩
            | 17, _, hdep =>
              have G2 : a1.tmps[96]? = some (.bool true) := by rw [← ha1]; exact (putsL_some _ _ _ _ (by decide) (show 96 < 154 from by decide)).trans (congrArg some (hdep 2 (by kernel_rfl)))
              have E108 : a1.tmps[108]?.getD undef = .int .i64 d1 := by rw [← ha1]; exact (putsL_in2 _ _ _ _ (by decide) (show 108 < 154 from by decide)).trans (hdep 14 (by kernel_rfl))
              have E110 : a1.tmps[110]?.getD undef = .int .i64 x5 := by rw [← ha1]; exact (putsL_in2 _ _ _ _ (by decide) (show 110 < 154 from by decide)).trans (hdep 16 (by kernel_rfl))
              exact wpOp_valG rfl rfl (yielded_of rfl G2) (v := .int .i64 e1) (w' := W) (by simp [execOp, go_sem, E108, E110, hw1]) ⟨hIW, fun _ h => h, Or.inl ⟨_, by decide, rfl, updF_same _ _ _⟩⟩
            | 18, _, hdep =>
              have G2 : a1.tmps[96]? = some (.bool true) := by rw [← ha1]; exact (putsL_some _ _ _ _ (by decide) (show 96 < 154 from by decide)).trans (congrArg some (hdep 2 (by kernel_rfl)))
              have E102 : a1.tmps[102]?.getD undef = .int .i64 e1 := by rw [← ha1]; exact (putsL_in2 _ _ _ _ (by decide) (show 102 < 154 from by decide)).trans (hdep 8 (by kernel_rfl))
              have E111 : a1.tmps[111]?.getD undef = .int .i64 e1 := by rw [← ha1]; exact (putsL_in2 _ _ _ _ (by decide) (show 111 < 154 from by decide)).trans (hdep 17 (by kernel_rfl))
              exact wpOp_valG rfl rfl (yielded_of rfl G2) (v := .bool true) (w' := W) (by simp [execOp, go_sem, E102, E111]) ⟨hIW, fun _ h => h, Or.inl ⟨_, by decide, rfl, updF_same _ _ _⟩⟩
            | 19, _, hdep =>
              have E96 : a1.tmps[96]?.getD undef = .bool true := by rw [← ha1]; exact (putsL_in2 _ _ _ _ (by decide) (show 96 < 154 from by decide)).trans (hdep 2 (by kernel_rfl))
              have E112 : a1.tmps[112]?.getD undef = .bool true := by rw [← ha1]; exact (putsL_in2 _ _ _ _ (by decide) (show 112 < 154 from by decide)).trans (hdep 18 (by kernel_rfl))
              exact wpOp_val rfl rfl (v := .bool true) (w' := W) (by simp [execOp, go_sem, E96, E112]) ⟨hIW, fun _ h => h, Or.inl ⟨_, by decide, rfl, updF_same _ _ _⟩⟩
            | 20, _, hdep =>
              have E113 : a1.tmps[113]?.getD undef = .bool true := by rw [← ha1]; exact (putsL_in2 _ _ _ _ (by decide) (show 113 < 154 from by decide)).trans (hdep 19 (by kernel_rfl))
              exact wpOp_val rfl rfl (v := .bool true) (w' := W) (by simp [execOp, go_sem, E113]) ⟨hIW, fun _ h => h, Or.inl ⟨_, by decide, rfl, updF_same _ _ _⟩⟩
            | 21, _, hdep =>
              have G20 : a1.tmps[114]? = some (.bool true) := by rw [← ha1]; exact (putsL_some _ _ _ _ (by decide) (show 114 < 154 from by decide)).trans (congrArg some (hdep 20 (by kernel_rfl)))
              have E17 : a1.tmps[17]?.getD undef = .pointer (some ⟨bX, 0, none⟩) := by rw [← ha1]; exact (putsL_out2 _ _ _ _ (by decide)).trans rfl
              have v0 : W.cell? ⟨bX, 0, none⟩ = some (.slice aX nX cX) := by simpa using HCX.out W hIW 0
              exact wpOp_valG rfl rfl (yielded_of rfl G20) (v := .agg #[.slice aX nX cX]) (w' := W) (by simp [execOp, go_sem, E17, v0]) ⟨hIW, fun _ h => h, Or.inl ⟨_, by decide, rfl, updF_same _ _ _⟩⟩
            | 22, _, hdep =>
              have G20 : a1.tmps[114]? = some (.bool true) := by rw [← ha1]; exact (putsL_some _ _ _ _ (by decide) (show 114 < 154 from by decide)).trans (congrArg some (hdep 20 (by kernel_rfl)))
              have E16 : a1.tmps[16]?.getD undef = .pointer (some ⟨bP, 0, none⟩) := by rw [← ha1]; exact (putsL_out2 _ _ _ _ (by decide)).trans rfl
              exact wpOp_valG rfl rfl (yielded_of rfl G20) (v := .pointer (some ⟨bP, 2, none⟩)) (w' := W) (by simp [execOp, go_sem, E16]) ⟨hIW, fun _ h => h, Or.inl ⟨_, by decide, rfl, updF_same _ _ _⟩⟩
            | 23, _, hdep =>
              have G20 : a1.tmps[114]? = some (.bool true) := by rw [← ha1]; exact (putsL_some _ _ _ _ (by decide) (show 114 < 154 from by decide)).trans (congrArg some (hdep 20 (by kernel_rfl)))
              have E116 : a1.tmps[116]?.getD undef = .pointer (some ⟨bP, 2, none⟩) := by rw [← ha1]; exact (putsL_in2 _ _ _ _ (by decide) (show 116 < 154 from by decide)).trans (hdep 22 (by kernel_rfl))
              have v2 : W.cell? ⟨bP, 2, none⟩ = some (.int .i64 x2) := by simpa using HCP.out W hIW 2
              exact wpOp_valG rfl rfl (yielded_of rfl G20) (v := .int .i64 x2) (w' := W) (by simp [execOp, go_sem, E116, v2]) ⟨hIW, fun _ h => h, Or.inl ⟨_, by decide, rfl, updF_same _ _ _⟩⟩
            | 24, _, hdep =>
              have G20 : a1.tmps[114]? = some (.bool true) := by rw [← ha1]; exact (putsL_some _ _ _ _ (by decide) (show 114 < 154 from by decide)).trans (congrArg some (hdep 20 (by kernel_rfl)))
              have E16 : a1.tmps[16]?.getD undef = .pointer (some ⟨bP, 0, none⟩) := by rw [← ha1]; exact (putsL_out2 _ _ _ _ (by decide)).trans rfl
              exact wpOp_valG rfl rfl (yielded_of rfl G20) (v := .pointer (some ⟨bP, 4, none⟩)) (w' := W) (by simp [execOp, go_sem, E16]) ⟨hIW, fun _ h => h, Or.inl ⟨_, by decide, rfl, updF_same _ _ _⟩⟩
            | 25, _, hdep =>
              have G20 : a1.tmps[114]? = some (.bool true) := by rw [← ha1]; exact (putsL_some _ _ _ _ (by decide) (show 114 < 154 from by decide)).trans (congrArg some (hdep 20 (by kernel_rfl)))
              have E118 : a1.tmps[118]?.getD undef = .pointer (some ⟨bP, 4, none⟩) := by rw [← ha1]; exact (putsL_in2 _ _ _ _ (by decide) (show 118 < 154 from by decide)).trans (hdep 24 (by kernel_rfl))
              have v4 : W.cell? ⟨bP, 4, none⟩ = some (.int .i64 x4) := by simpa using HCP.out W hIW 4
              exact wpOp_valG rfl rfl (yielded_of rfl G20) (v := .int .i64 x4) (w' := W) (by simp [execOp, go_sem, E118, v4]) ⟨hIW, fun _ h => h, Or.inl ⟨_, by decide, rfl, updF_same _ _ _⟩⟩
            | 26, _, hdep =>
              have G20 : a1.tmps[114]? = some (.bool true) := by rw [← ha1]; exact (putsL_some _ _ _ _ (by decide) (show 114 < 154 from by decide)).trans (congrArg some (hdep 20 (by kernel_rfl)))
              have E115 : a1.tmps[115]?.getD undef = .agg #[.slice aX nX cX] := by rw [← ha1]; exact (putsL_in2 _ _ _ _ (by decide) (show 115 < 154 from by decide)).trans (hdep 21 (by kernel_rfl))
              have E117 : a1.tmps[117]?.getD undef = .int .i64 x2 := by rw [← ha1]; exact (putsL_in2 _ _ _ _ (by decide) (show 117 < 154 from by decide)).trans (hdep 23 (by kernel_rfl))
              have E119 : a1.tmps[119]?.getD undef = .int .i64 x4 := by rw [← ha1]; exact (putsL_in2 _ _ _ _ (by decide) (show 119 < 154 from by decide)).trans (hdep 25 (by kernel_rfl))
              refine wpOp_callG rfl rfl (yielded_of rfl G20) (n := 11) (vs := #[.agg #[.slice aX nX cX], .int .i64 x2, .int .i64 x4, .int .i64 900]) (by have := egO #[.agg #[.slice aX nX cX], .int .i64 x2, .int .i64 x4, .int .i64 900] W; simp [execOp, E115, E117, E119, resolve, invoke, go_sem] <;> exact this) ((HO3.out W hIW).mono fun e w' h => (⟨_, h.1, rfl, h.2⟩ : ∃ v, e = .returned v ∧ (v = .int .i64 e2 ∧ J w'))) ?_
              rintro v w' ⟨rfl, hI'⟩
              exact ⟨hI', fun _ h => h, Or.inl ⟨_, by decide, rfl, updF_same _ _ _⟩⟩
            | 27, _, hdep =>
              have G20 : a1.tmps[114]? = some (.bool true) := by rw [← ha1]; exact (putsL_some _ _ _ _ (by decide) (show 114 < 154 from by decide)).trans (congrArg some (hdep 20 (by kernel_rfl)))
              have E6 : a1.tmps[6]?.getD undef = .pointer (some ⟨bL, 0, none⟩) := by rw [← ha1]; exact (putsL_out2 _ _ _ _ (by decide)).trans rfl
              have v0 : W.cell? ⟨bL, 0, none⟩ = some (.slice av nl cv) := by simpa using HCL.out W hIW 0
              exact wpOp_valG rfl rfl (yielded_of rfl G20) (v := .agg #[.slice av nl cv]) (w' := W) (by simp [execOp, go_sem, E6, v0]) ⟨hIW, fun _ h => h, Or.inl ⟨_, by decide, rfl, updF_same _ _ _⟩⟩
            | 28, _, hdep =>
              have G20 : a1.tmps[114]? = some (.bool true) := by rw [← ha1]; exact (putsL_some _ _ _ _ (by decide) (show 114 < 154 from by decide)).trans (congrArg some (hdep 20 (by kernel_rfl)))
              have E16 : a1.tmps[16]?.getD undef = .pointer (some ⟨bP, 0, none⟩) := by rw [← ha1]; exact (putsL_out2 _ _ _ _ (by decide)).trans rfl
              exact wpOp_valG rfl rfl (yielded_of rfl G20) (v := .pointer (some ⟨bP, 2, none⟩)) (w' := W) (by simp [execOp, go_sem, E16]) ⟨hIW, fun _ h => h, Or.inl ⟨_, by decide, rfl, updF_same _ _ _⟩⟩
            | 29, _, hdep =>
              have G20 : a1.tmps[114]? = some (.bool true) := by rw [← ha1]; exact (putsL_some _ _ _ _ (by decide) (show 114 < 154 from by decide)).trans (congrArg some (hdep 20 (by kernel_rfl)))
              have E122 : a1.tmps[122]?.getD undef = .pointer (some ⟨bP, 2, none⟩) := by rw [← ha1]; exact (putsL_in2 _ _ _ _ (by decide) (show 122 < 154 from by decide)).trans (hdep 28 (by kernel_rfl))
              have v2 : W.cell? ⟨bP, 2, none⟩ = some (.int .i64 x2) := by simpa using HCP.out W hIW 2
              exact wpOp_valG rfl rfl (yielded_of rfl G20) (v := .int .i64 x2) (w' := W) (by simp [execOp, go_sem, E122, v2]) ⟨hIW, fun _ h => h, Or.inl ⟨_, by decide, rfl, updF_same _ _ _⟩⟩
            | 30, _, hdep =>
              have G20 : a1.tmps[114]? = some (.bool true) := by rw [← ha1]; exact (putsL_some _ _ _ _ (by decide) (show 114 < 154 from by decide)).trans (congrArg some (hdep 20 (by kernel_rfl)))
              have E16 : a1.tmps[16]?.getD undef = .pointer (some ⟨bP, 0, none⟩) := by rw [← ha1]; exact (putsL_out2 _ _ _ _ (by decide)).trans rfl
              exact wpOp_valG rfl rfl (yielded_of rfl G20) (v := .pointer (some ⟨bP, 4, none⟩)) (w' := W) (by simp [execOp, go_sem, E16]) ⟨hIW, fun _ h => h, Or.inl ⟨_, by decide, rfl, updF_same _ _ _⟩⟩
            | 31, _, hdep =>
              have G20 : a1.tmps[114]? = some (.bool true) := by rw [← ha1]; exact (putsL_some _ _ _ _ (by decide) (show 114 < 154 from by decide)).trans (congrArg some (hdep 20 (by kernel_rfl)))
              have E124 : a1.tmps[124]?.getD undef = .pointer (some ⟨bP, 4, none⟩) := by rw [← ha1]; exact (putsL_in2 _ _ _ _ (by decide) (show 124 < 154 from by decide)).trans (hdep 30 (by kernel_rfl))
              have v4 : W.cell? ⟨bP, 4, none⟩ = some (.int .i64 x4) := by simpa using HCP.out W hIW 4
              exact wpOp_valG rfl rfl (yielded_of rfl G20) (v := .int .i64 x4) (w' := W) (by simp [execOp, go_sem, E124, v4]) ⟨hIW, fun _ h => h, Or.inl ⟨_, by decide, rfl, updF_same _ _ _⟩⟩
            | 32, _, hdep =>
              have G20 : a1.tmps[114]? = some (.bool true) := by rw [← ha1]; exact (putsL_some _ _ _ _ (by decide) (show 114 < 154 from by decide)).trans (congrArg some (hdep 20 (by kernel_rfl)))
              have E121 : a1.tmps[121]?.getD undef = .agg #[.slice av nl cv] := by rw [← ha1]; exact (putsL_in2 _ _ _ _ (by decide) (show 121 < 154 from by decide)).trans (hdep 27 (by kernel_rfl))
              have E123 : a1.tmps[123]?.getD undef = .int .i64 x2 := by rw [← ha1]; exact (putsL_in2 _ _ _ _ (by decide) (show 123 < 154 from by decide)).trans (hdep 29 (by kernel_rfl))
              have E125 : a1.tmps[125]?.getD undef = .int .i64 x4 := by rw [← ha1]; exact (putsL_in2 _ _ _ _ (by decide) (show 125 < 154 from by decide)).trans (hdep 31 (by kernel_rfl))
              refine wpOp_callG rfl rfl (yielded_of rfl G20) (n := 11) (vs := #[.agg #[.slice av nl cv], .int .i64 x2, .int .i64 x4, .int .i64 900]) (by have := egO #[.agg #[.slice av nl cv], .int .i64 x2, .int .i64 x4, .int .i64 900] W; simp [execOp, E121, E123, E125, resolve, invoke, go_sem] <;> exact this) ((HO4.out W hIW).mono fun e w' h => (⟨_, h.1, rfl, h.2⟩ : ∃ v, e = .returned v ∧ (v = .int .i64 d2 ∧ J w'))) ?_
              rintro v w' ⟨rfl, hI'⟩
              exact ⟨hI', fun _ h => h, Or.inl ⟨_, by decide, rfl, updF_same _ _ _⟩⟩
            | 33, _, hdep =>
              have G20 : a1.tmps[114]? = some (.bool true) := by rw [← ha1]; exact (putsL_some _ _ _ _ (by decide) (show 114 < 154 from by decide)).trans (congrArg some (hdep 20 (by kernel_rfl)))
              have E16 : a1.tmps[16]?.getD undef = .pointer (some ⟨bP, 0, none⟩) := by rw [← ha1]; exact (putsL_out2 _ _ _ _ (by decide)).trans rfl
              exact wpOp_valG rfl rfl (yielded_of rfl G20) (v := .pointer (some ⟨bP, 5, none⟩)) (w' := W) (by simp [execOp, go_sem, E16]) ⟨hIW, fun _ h => h, Or.inl ⟨_, by decide, rfl, updF_same _ _ _⟩⟩
            | 34, _, hdep =>
              have G20 : a1.tmps[114]? = some (.bool true) := by rw [← ha1]; exact (putsL_some _ _ _ _ (by decide) (show 114 < 154 from by decide)).trans (congrArg some (hdep 20 (by kernel_rfl)))
              have E127 : a1.tmps[127]?.getD undef = .pointer (some ⟨bP, 5, none⟩) := by rw [← ha1]; exact (putsL_in2 _ _ _ _ (by decide) (show 127 < 154 from by decide)).trans (hdep 33 (by kernel_rfl))
              have v5 : W.cell? ⟨bP, 5, none⟩ = some (.int .i64 x5) := by simpa using HCP.out W hIW 5
              exact wpOp_valG rfl rfl (yielded_of rfl G20) (v := .int .i64 x5) (w' := W) (by simp [execOp, go_sem, E127, v5]) ⟨hIW, fun _ h => h, Or.inl ⟨_, by decide, rfl, updF_same _ _ _⟩⟩
            | 35, _, hdep =>
              have G20 : a1.tmps[114]? = some (.bool true) := by rw [← ha1]; exact (putsL_some _ _ _ _ (by decide) (show 114 < 154 from by decide)).trans (congrArg some (hdep 20 (by kernel_rfl)))
              have E126 : a1.tmps[126]?.getD undef = .int .i64 d2 := by rw [← ha1]; exact (putsL_in2 _ _ _ _ (by decide) (show 126 < 154 from by decide)).trans (hdep 32 (by kernel_rfl))
              have E128 : a1.tmps[128]?.getD undef = .int .i64 x5 := by rw [← ha1]; exact (putsL_in2 _ _ _ _ (by decide) (show 128 < 154 from by decide)).trans (hdep 34 (by kernel_rfl))
              exact wpOp_valG rfl rfl (yielded_of rfl G20) (v := .int .i64 e2) (w' := W) (by simp [execOp, go_sem, E126, E128, hw2]) ⟨hIW, fun _ h => h, Or.inl ⟨_, by decide, rfl, updF_same _ _ _⟩⟩
            | 36, _, hdep =>
              have G20 : a1.tmps[114]? = some (.bool true) := by rw [← ha1]; exact (putsL_some _ _ _ _ (by decide) (show 114 < 154 from by decide)).trans (congrArg some (hdep 20 (by kernel_rfl)))
              have E120 : a1.tmps[120]?.getD undef = .int .i64 e2 := by rw [← ha1]; exact (putsL_in2 _ _ _ _ (by decide) (show 120 < 154 from by decide)).trans (hdep 26 (by kernel_rfl))
              have E129 : a1.tmps[129]?.getD undef = .int .i64 e2 := by rw [← ha1]; exact (putsL_in2 _ _ _ _ (by decide) (show 129 < 154 from by decide)).trans (hdep 35 (by kernel_rfl))
              exact wpOp_valG rfl rfl (yielded_of rfl G20) (v := .bool true) (w' := W) (by simp [execOp, go_sem, E120, E129]) ⟨hIW, fun _ h => h, Or.inl ⟨_, by decide, rfl, updF_same _ _ _⟩⟩
            | 37, _, hdep =>
              have E114 : a1.tmps[114]?.getD undef = .bool true := by rw [← ha1]; exact (putsL_in2 _ _ _ _ (by decide) (show 114 < 154 from by decide)).trans (hdep 20 (by kernel_rfl))
              have E130 : a1.tmps[130]?.getD undef = .bool true := by rw [← ha1]; exact (putsL_in2 _ _ _ _ (by decide) (show 130 < 154 from by decide)).trans (hdep 36 (by kernel_rfl))
              exact wpOp_val rfl rfl (v := .bool true) (w' := W) (by simp [execOp, go_sem, E114, E130]) ⟨hIW, fun _ h => h, Or.inl ⟨_, by decide, rfl, updF_same _ _ _⟩⟩
            | 38, _, hdep =>
              have E131 : a1.tmps[131]?.getD undef = .bool true := by rw [← ha1]; exact (putsL_in2 _ _ _ _ (by decide) (show 131 < 154 from by decide)).trans (hdep 37 (by kernel_rfl))
              exact wpOp_val rfl rfl (v := .bool true) (w' := W) (by simp [execOp, go_sem, E131]) ⟨hIW, fun _ h => h, Or.inl ⟨_, by decide, rfl, updF_same _ _ _⟩⟩
            | 39, _, hdep =>
              have G38 : a1.tmps[132]? = some (.bool true) := by rw [← ha1]; exact (putsL_some _ _ _ _ (by decide) (show 132 < 154 from by decide)).trans (congrArg some (hdep 38 (by kernel_rfl)))
              have E17 : a1.tmps[17]?.getD undef = .pointer (some ⟨bX, 0, none⟩) := by rw [← ha1]; exact (putsL_out2 _ _ _ _ (by decide)).trans rfl
              have v0 : W.cell? ⟨bX, 0, none⟩ = some (.slice aX nX cX) := by simpa using HCX.out W hIW 0
              exact wpOp_valG rfl rfl (yielded_of rfl G38) (v := .agg #[.slice aX nX cX]) (w' := W) (by simp [execOp, go_sem, E17, v0]) ⟨hIW, fun _ h => h, Or.inl ⟨_, by decide, rfl, updF_same _ _ _⟩⟩
            | 40, _, hdep =>
              have G38 : a1.tmps[132]? = some (.bool true) := by rw [← ha1]; exact (putsL_some _ _ _ _ (by decide) (show 132 < 154 from by decide)).trans (congrArg some (hdep 38 (by kernel_rfl)))
              have E16 : a1.tmps[16]?.getD undef = .pointer (some ⟨bP, 0, none⟩) := by rw [← ha1]; exact (putsL_out2 _ _ _ _ (by decide)).trans rfl
              exact wpOp_valG rfl rfl (yielded_of rfl G38) (v := .pointer (some ⟨bP, 2, none⟩)) (w' := W) (by simp [execOp, go_sem, E16]) ⟨hIW, fun _ h => h, Or.inl ⟨_, by decide, rfl, updF_same _ _ _⟩⟩
            | 41, _, hdep =>
              have G38 : a1.tmps[132]? = some (.bool true) := by rw [← ha1]; exact (putsL_some _ _ _ _ (by decide) (show 132 < 154 from by decide)).trans (congrArg some (hdep 38 (by kernel_rfl)))
              have E134 : a1.tmps[134]?.getD undef = .pointer (some ⟨bP, 2, none⟩) := by rw [← ha1]; exact (putsL_in2 _ _ _ _ (by decide) (show 134 < 154 from by decide)).trans (hdep 40 (by kernel_rfl))
              have v2 : W.cell? ⟨bP, 2, none⟩ = some (.int .i64 x2) := by simpa using HCP.out W hIW 2
              exact wpOp_valG rfl rfl (yielded_of rfl G38) (v := .int .i64 x2) (w' := W) (by simp [execOp, go_sem, E134, v2]) ⟨hIW, fun _ h => h, Or.inl ⟨_, by decide, rfl, updF_same _ _ _⟩⟩
            | 42, _, hdep =>
              have G38 : a1.tmps[132]? = some (.bool true) := by rw [← ha1]; exact (putsL_some _ _ _ _ (by decide) (show 132 < 154 from by decide)).trans (congrArg some (hdep 38 (by kernel_rfl)))
              have E135 : a1.tmps[135]?.getD undef = .int .i64 x2 := by rw [← ha1]; exact (putsL_in2 _ _ _ _ (by decide) (show 135 < 154 from by decide)).trans (hdep 41 (by kernel_rfl))
              exact wpOp_valG rfl rfl (yielded_of rfl G38) (v := .int .i64 r3) (w' := W) (by simp [execOp, go_sem, E135, hr3, hwr3]) ⟨hIW, fun _ h => h, Or.inl ⟨_, by decide, rfl, updF_same _ _ _⟩⟩
            | 43, _, hdep =>
              have G38 : a1.tmps[132]? = some (.bool true) := by rw [← ha1]; exact (putsL_some _ _ _ _ (by decide) (show 132 < 154 from by decide)).trans (congrArg some (hdep 38 (by kernel_rfl)))
              have E136 : a1.tmps[136]?.getD undef = .int .i64 r3 := by rw [← ha1]; exact (putsL_in2 _ _ _ _ (by decide) (show 136 < 154 from by decide)).trans (hdep 42 (by kernel_rfl))
              exact wpOp_valG rfl rfl (yielded_of rfl G38) (v := .int .i64 oe) (w' := W) (by simp [execOp, go_sem, E136, hwo]) ⟨hIW, fun _ h => h, Or.inl ⟨_, by decide, rfl, updF_same _ _ _⟩⟩
            | 44, _, hdep =>
              have G38 : a1.tmps[132]? = some (.bool true) := by rw [← ha1]; exact (putsL_some _ _ _ _ (by decide) (show 132 < 154 from by decide)).trans (congrArg some (hdep 38 (by kernel_rfl)))
              have E16 : a1.tmps[16]?.getD undef = .pointer (some ⟨bP, 0, none⟩) := by rw [← ha1]; exact (putsL_out2 _ _ _ _ (by decide)).trans rfl
              exact wpOp_valG rfl rfl (yielded_of rfl G38) (v := .pointer (some ⟨bP, 3, none⟩)) (w' := W) (by simp [execOp, go_sem, E16]) ⟨hIW, fun _ h => h, Or.inl ⟨_, by decide, rfl, updF_same _ _ _⟩⟩
            | 45, _, hdep =>
              have G38 : a1.tmps[132]? = some (.bool true) := by rw [← ha1]; exact (putsL_some _ _ _ _ (by decide) (show 132 < 154 from by decide)).trans (congrArg some (hdep 38 (by kernel_rfl)))
              have E138 : a1.tmps[138]?.getD undef = .pointer (some ⟨bP, 3, none⟩) := by rw [← ha1]; exact (putsL_in2 _ _ _ _ (by decide) (show 138 < 154 from by decide)).trans (hdep 44 (by kernel_rfl))
              have v3 : W.cell? ⟨bP, 3, none⟩ = some (.int .i64 x3) := by simpa using HCP.out W hIW 3
              exact wpOp_valG rfl rfl (yielded_of rfl G38) (v := .int .i64 x3) (w' := W) (by simp [execOp, go_sem, E138, v3]) ⟨hIW, fun _ h => h, Or.inl ⟨_, by decide, rfl, updF_same _ _ _⟩⟩
            | 46, _, hdep =>
              have G38 : a1.tmps[132]? = some (.bool true) := by rw [← ha1]; exact (putsL_some _ _ _ _ (by decide) (show 132 < 154 from by decide)).trans (congrArg some (hdep 38 (by kernel_rfl)))
              have E133 : a1.tmps[133]?.getD undef = .agg #[.slice aX nX cX] := by rw [← ha1]; exact (putsL_in2 _ _ _ _ (by decide) (show 133 < 154 from by decide)).trans (hdep 39 (by kernel_rfl))
              have E137 : a1.tmps[137]?.getD undef = .int .i64 oe := by rw [← ha1]; exact (putsL_in2 _ _ _ _ (by decide) (show 137 < 154 from by decide)).trans (hdep 43 (by kernel_rfl))
              have E139 : a1.tmps[139]?.getD undef = .int .i64 x3 := by rw [← ha1]; exact (putsL_in2 _ _ _ _ (by decide) (show 139 < 154 from by decide)).trans (hdep 45 (by kernel_rfl))
              refine wpOp_callG rfl rfl (yielded_of rfl G38) (n := 11) (vs := #[.agg #[.slice aX nX cX], .int .i64 oe, .int .i64 x3, .int .i64 900]) (by have := egO #[.agg #[.slice aX nX cX], .int .i64 oe, .int .i64 x3, .int .i64 900] W; simp [execOp, E133, E137, E139, resolve, invoke, go_sem] <;> exact this) ((HO5.out W hIW).mono fun e w' h => (⟨_, h.1, rfl, h.2⟩ : ∃ v, e = .returned v ∧ (v = .int .i64 d3 ∧ J w'))) ?_
              rintro v w' ⟨rfl, hI'⟩
              exact ⟨hI', fun _ h => h, Or.inl ⟨_, by decide, rfl, updF_same _ _ _⟩⟩
            | 47, _, hdep =>
              have G38 : a1.tmps[132]? = some (.bool true) := by rw [← ha1]; exact (putsL_some _ _ _ _ (by decide) (show 132 < 154 from by decide)).trans (congrArg some (hdep 38 (by kernel_rfl)))
              have E6 : a1.tmps[6]?.getD undef = .pointer (some ⟨bL, 0, none⟩) := by rw [← ha1]; exact (putsL_out2 _ _ _ _ (by decide)).trans rfl
              have v0 : W.cell? ⟨bL, 0, none⟩ = some (.slice av nl cv) := by simpa using HCL.out W hIW 0
              exact wpOp_valG rfl rfl (yielded_of rfl G38) (v := .agg #[.slice av nl cv]) (w' := W) (by simp [execOp, go_sem, E6, v0]) ⟨hIW, fun _ h => h, Or.inl ⟨_, by decide, rfl, updF_same _ _ _⟩⟩
            | 48, _, hdep =>
              have G38 : a1.tmps[132]? = some (.bool true) := by rw [← ha1]; exact (putsL_some _ _ _ _ (by decide) (show 132 < 154 from by decide)).trans (congrArg some (hdep 38 (by kernel_rfl)))
              have E16 : a1.tmps[16]?.getD undef = .pointer (some ⟨bP, 0, none⟩) := by rw [← ha1]; exact (putsL_out2 _ _ _ _ (by decide)).trans rfl
              exact wpOp_valG rfl rfl (yielded_of rfl G38) (v := .pointer (some ⟨bP, 2, none⟩)) (w' := W) (by simp [execOp, go_sem, E16]) ⟨hIW, fun _ h => h, Or.inl ⟨_, by decide, rfl, updF_same _ _ _⟩⟩
            | 49, _, hdep =>
              have G38 : a1.tmps[132]? = some (.bool true) := by rw [← ha1]; exact (putsL_some _ _ _ _ (by decide) (show 132 < 154 from by decide)).trans (congrArg some (hdep 38 (by kernel_rfl)))
              have E142 : a1.tmps[142]?.getD undef = .pointer (some ⟨bP, 2, none⟩) := by rw [← ha1]; exact (putsL_in2 _ _ _ _ (by decide) (show 142 < 154 from by decide)).trans (hdep 48 (by kernel_rfl))
              have v2 : W.cell? ⟨bP, 2, none⟩ = some (.int .i64 x2) := by simpa using HCP.out W hIW 2
              exact wpOp_valG rfl rfl (yielded_of rfl G38) (v := .int .i64 x2) (w' := W) (by simp [execOp, go_sem, E142, v2]) ⟨hIW, fun _ h => h, Or.inl ⟨_, by decide, rfl, updF_same _ _ _⟩⟩
            | 50, _, hdep =>
              have G38 : a1.tmps[132]? = some (.bool true) := by rw [← ha1]; exact (putsL_some _ _ _ _ (by decide) (show 132 < 154 from by decide)).trans (congrArg some (hdep 38 (by kernel_rfl)))
              have E143 : a1.tmps[143]?.getD undef = .int .i64 x2 := by rw [← ha1]; exact (putsL_in2 _ _ _ _ (by decide) (show 143 < 154 from by decide)).trans (hdep 49 (by kernel_rfl))
              exact wpOp_valG rfl rfl (yielded_of rfl G38) (v := .int .i64 r3) (w' := W) (by simp [execOp, go_sem, E143, hr3, hwr3]) ⟨hIW, fun _ h => h, Or.inl ⟨_, by decide, rfl, updF_same _ _ _⟩⟩
            | 51, _, hdep =>
              have G38 : a1.tmps[132]? = some (.bool true) := by rw [← ha1]; exact (putsL_some _ _ _ _ (by decide) (show 132 < 154 from by decide)).trans (congrArg some (hdep 38 (by kernel_rfl)))
              have E144 : a1.tmps[144]?.getD undef = .int .i64 r3 := by rw [← ha1]; exact (putsL_in2 _ _ _ _ (by decide) (show 144 < 154 from by decide)).trans (hdep 50 (by kernel_rfl))
              exact wpOp_valG rfl rfl (yielded_of rfl G38) (v := .int .i64 oe) (w' := W) (by simp [execOp, go_sem, E144, hwo]) ⟨hIW, fun _ h => h, Or.inl ⟨_, by decide, rfl, updF_same _ _ _⟩⟩
            | 52, _, hdep =>
              have G38 : a1.tmps[132]? = some (.bool true) := by rw [← ha1]; exact (putsL_some _ _ _ _ (by decide) (show 132 < 154 from by decide)).trans (congrArg some (hdep 38 (by kernel_rfl)))
              have E16 : a1.tmps[16]?.getD undef = .pointer (some ⟨bP, 0, none⟩) := by rw [← ha1]; exact (putsL_out2 _ _ _ _ (by decide)).trans rfl
              exact wpOp_valG rfl rfl (yielded_of rfl G38) (v := .pointer (some ⟨bP, 3, none⟩)) (w' := W) (by simp [execOp, go_sem, E16]) ⟨hIW, fun _ h => h, Or.inl ⟨_, by decide, rfl, updF_same _ _ _⟩⟩
            | 53, _, hdep =>
              have G38 : a1.tmps[132]? = some (.bool true) := by rw [← ha1]; exact (putsL_some _ _ _ _ (by decide) (show 132 < 154 from by decide)).trans (congrArg some (hdep 38 (by kernel_rfl)))
              have E146 : a1.tmps[146]?.getD undef = .pointer (some ⟨bP, 3, none⟩) := by rw [← ha1]; exact (putsL_in2 _ _ _ _ (by decide) (show 146 < 154 from by decide)).trans (hdep 52 (by kernel_rfl))
              have v3 : W.cell? ⟨bP, 3, none⟩ = some (.int .i64 x3) := by simpa using HCP.out W hIW 3
              exact wpOp_valG rfl rfl (yielded_of rfl G38) (v := .int .i64 x3) (w' := W) (by simp [execOp, go_sem, E146, v3]) ⟨hIW, fun _ h => h, Or.inl ⟨_, by decide, rfl, updF_same _ _ _⟩⟩
            | 54, _, hdep =>
              have G38 : a1.tmps[132]? = some (.bool true) := by rw [← ha1]; exact (putsL_some _ _ _ _ (by decide) (show 132 < 154 from by decide)).trans (congrArg some (hdep 38 (by kernel_rfl)))
              have E141 : a1.tmps[141]?.getD undef = .agg #[.slice av nl cv] := by rw [← ha1]; exact (putsL_in2 _ _ _ _ (by decide) (show 141 < 154 from by decide)).trans (hdep 47 (by kernel_rfl))
              have E145 : a1.tmps[145]?.getD undef = .int .i64 oe := by rw [← ha1]; exact (putsL_in2 _ _ _ _ (by decide) (show 145 < 154 from by decide)).trans (hdep 51 (by kernel_rfl))
              have E147 : a1.tmps[147]?.getD undef = .int .i64 x3 := by rw [← ha1]; exact (putsL_in2 _ _ _ _ (by decide) (show 147 < 154 from by decide)).trans (hdep 53 (by kernel_rfl))
              refine wpOp_callG rfl rfl (yielded_of rfl G38) (n := 11) (vs := #[.agg #[.slice av nl cv], .int .i64 oe, .int .i64 x3, .int .i64 900]) (by have := egO #[.agg #[.slice av nl cv], .int .i64 oe, .int .i64 x3, .int .i64 900] W; simp [execOp, E141, E145, E147, resolve, invoke, go_sem] <;> exact this) ((HO6.out W hIW).mono fun e w' h => (⟨_, h.1, rfl, h.2⟩ : ∃ v, e = .returned v ∧ (v = .int .i64 d3 ∧ J w'))) ?_
              rintro v w' ⟨rfl, hI'⟩
              exact ⟨hI', fun _ h => h, Or.inl ⟨_, by decide, rfl, updF_same _ _ _⟩⟩
            | 55, _, hdep =>
              have G38 : a1.tmps[132]? = some (.bool true) := by rw [← ha1]; exact (putsL_some _ _ _ _ (by decide) (show 132 < 154 from by decide)).trans (congrArg some (hdep 38 (by kernel_rfl)))
              have E140 : a1.tmps[140]?.getD undef = .int .i64 d3 := by rw [← ha1]; exact (putsL_in2 _ _ _ _ (by decide) (show 140 < 154 from by decide)).trans (hdep 46 (by kernel_rfl))
              have E148 : a1.tmps[148]?.getD undef = .int .i64 d3 := by rw [← ha1]; exact (putsL_in2 _ _ _ _ (by decide) (show 148 < 154 from by decide)).trans (hdep 54 (by kernel_rfl))
              exact wpOp_valG rfl rfl (yielded_of rfl G38) (v := .bool true) (w' := W) (by simp [execOp, go_sem, E140, E148]) ⟨hIW, fun _ h => h, Or.inl ⟨_, by decide, rfl, updF_same _ _ _⟩⟩
            | 56, _, hdep =>
              have E132 : a1.tmps[132]?.getD undef = .bool true := by rw [← ha1]; exact (putsL_in2 _ _ _ _ (by decide) (show 132 < 154 from by decide)).trans (hdep 38 (by kernel_rfl))
              have E149 : a1.tmps[149]?.getD undef = .bool true := by rw [← ha1]; exact (putsL_in2 _ _ _ _ (by decide) (show 149 < 154 from by decide)).trans (hdep 55 (by kernel_rfl))
              exact wpOp_val rfl rfl (v := .bool true) (w' := W) (by simp [execOp, go_sem, E132, E149]) ⟨hIW, fun _ h => h, Or.inl ⟨_, by decide, rfl, updF_same _ _ _⟩⟩
            | 57, _, hdep =>
              have E150 : a1.tmps[150]?.getD undef = .bool true := by rw [← ha1]; exact (putsL_in2 _ _ _ _ (by decide) (show 150 < 154 from by decide)).trans (hdep 56 (by kernel_rfl))
              exact wpOp_val rfl rfl (v := .bool true) (w' := W) (by simp [execOp, go_sem, E150]) ⟨hIW, fun _ h => h, Or.inl ⟨_, by decide, rfl, updF_same _ _ _⟩⟩
            | 58, _, hdep =>
              have G57 : a1.tmps[151]? = some (.bool true) := by rw [← ha1]; exact (putsL_some _ _ _ _ (by decide) (show 151 < 154 from by decide)).trans (congrArg some (hdep 57 (by kernel_rfl)))
              refine wpOp_callG rfl rfl (yielded_of rfl G57) (n := 14) (vs := #[]) (by have := egX #[] W; simp [execOp, go_sem, resolve, invoke, go_sem] <;> exact this) ((HC9.out W hIW).mono fun e w' h => (⟨_, h.1, rfl, h.2⟩ : ∃ v, e = .returned v ∧ (v = .bool true ∧ J w'))) ?_
              rintro v w' ⟨rfl, hI'⟩
              exact ⟨hI', fun _ h => h, Or.inl ⟨_, by decide, rfl, updF_same _ _ _⟩⟩
            | 59, _, hdep =>
              have E151 : a1.tmps[151]?.getD undef = .bool true := by rw [← ha1]; exact (putsL_in2 _ _ _ _ (by decide) (show 151 < 154 from by decide)).trans (hdep 57 (by kernel_rfl))
              have E152 : a1.tmps[152]?.getD undef = .bool true := by rw [← ha1]; exact (putsL_in2 _ _ _ _ (by decide) (show 152 < 154 from by decide)).trans (hdep 58 (by kernel_rfl))
              exact wpOp_val rfl rfl (v := .bool true) (w' := W) (by simp [execOp, go_sem, E151, E152]) ⟨hIW, fun _ h => h, Or.inl ⟨_, by decide, rfl, updF_same _ _ _⟩⟩
            | 60, _, hdep =>
              have E153 : a1.tmps[153]?.getD undef = .bool true := by rw [← ha1]; exact (putsL_in2 _ _ _ _ (by decide) (show 153 < 154 from by decide)).trans (hdep 59 (by kernel_rfl))
              exact wpOp_val rfl rfl (v := .bool true) (w' := W) (by simp [execOp, go_sem, E153]) ⟨hIW, fun _ h => h, Or.inl ⟨_, by decide, rfl, updF_same _ _ _⟩⟩
            | iq + 61, h, _ => exact absurd h (by omega)
          case refine_2 =>
            intro f W hIW hR
            have h4 : f 4 = .bool true := hR 60 (show 60 < 61 from by decide)
            simp only [putsL, List.foldl_cons, List.foldl_nil, Act.put, List.setIfInBounds_toArray, List.set_cons_zero, List.set_cons_succ]
            go_wp2
            go_ret
            first
              | exact ⟨rfl, HFIN.out _ hIW⟩
              | exact ⟨congrArg Ending.returned h4, HFIN.out _ hIW⟩

end Go.Proofs.Ytoelidndnajedab
