/- sweep.Kept and Short on right accounts and rules. -/
import Derived.Test.YtoelidndnajedaaSwQ
import Derived.Test.YtoelidndnajedaaSfun
set_option linter.unusedSimpArgs false
set_option linter.unusedVariables false
namespace Go.Proofs.Ytoelidndnajedaa
open Go.RowKit Go.Lib Go.Proofs

/-- A predicate that is called with one Kp. -/
def kpPred (f : Nat) (lb : Array Value) (p : Kp → Bool) (xs : List Kp) (Old : World → Prop) : Prop :=
  ∀ x ∈ xs, ∀ W, Old W → Calls Try.prog f (#[.agg (kpC x).toArray] ++ lb) W fun e W' => e = .returned (.bool (p x)) ∧ Below W.heap.size W W'

set_option maxRecDepth 100000 in
set_option maxHeartbeats 4000000 in
theorem kpIndex_any (f : Nat) (lb : Array Value) (eg : ∀ args w, (callFunc f args).run Try.prog w = .ok (.enter f args) w) (p : Kp → Bool) (xs : List Kp) (v : Value) (w : World)
    (hr : ListAt kpC 3 w v xs) (hlen : xs.length ≤ 1000000) (hp : kpPred f lb p xs fun W => Below w.heap.size w W) :
    Calls Try.prog 79 #[v, .func (.func f) #[] lb] w (IndexPost p xs w) := by
  obtain ⟨ao, cap, rfl, hcap, hc⟩ := hr.shape kpF
  obtain ⟨n, hn⟩ : ∃ n, n = xs.length := ⟨_, rfl⟩
  have HN := Lib.hid hn
  have HP := Lib.hid hp
  rw [← hn] at hlen hcap ⊢
  have HC := Lib.hid hc
  clear hp hn hr hc
  go_enter Try.func79, Try.ntmps79
  go_wp2
  go_loopw [8] (fun i wr => ∃ k : Nat, i = .int .i64 k ∧ k ≤ n ∧ Hid (∀ x ∈ xs.take k, p x = false) ∧ Hid (Below w.heap.size w wr)) (fun i _ => n - (RowKit.intOf i).toNat)
  case atStart => exact ⟨0, rfl, by omega, Lib.hid (by simp), Lib.hid (Below.refl _ _)⟩
  case round =>
    obtain ⟨k, rfl, hkn, HF, HB⟩ := hrel
    by_cases hlt : k < n
    · have hlx : k < xs.length := by rw [← HN.out]; exact hlt
      obtain ⟨b, o, rfl, hb, hcc⟩ := HC.out (by omega)
      have hcell := fun j (hj : j < 3) => (HB.out.cell (p := ⟨b, o + k * 3 + j, none⟩) hb).trans (hcc k hlx j hj)
      have hcall := HP.out xs[k] (List.getElem_mem hlx) wr HB.out
      obtain ⟨x, hx⟩ : ∃ x, x = xs[k] := ⟨_, rfl⟩
      rw [← hx] at hcell hcall
      have HX := Lib.hid hx
      have hpx : Hid (∃ c, c = p x) := Lib.hid ⟨_, rfl⟩
      obtain ⟨c, hc⟩ := hpx.out
      have HPX := Lib.hid hc
      rw [← hc] at hcall
      clear hx hc hpx hcc
      obtain ⟨y0, y1, y2⟩ := x
      have c0 := hcell 0 (by omega)
      have c1 := hcell 1 (by omega)
      have c2 := hcell 2 (by omega)
      simp [kpC] at c0 c1 c2 hcall
      have HCALL := Lib.hid hcall
      have hk0 : (0 : Int) ≤ (k : Int) := by omega
      have hk1 : (k : Int) < (n : Int) := by omega
      clear hcell hcall HC
      cases c with
      | true =>
        go_wp2_with fail
        with_reducible refine (HCALL.out).mono ?_
        rintro e w1 ⟨rfl, hb1⟩
        go_wp2
        go_ret
        exact ⟨k, rfl, Or.inr ⟨k, rfl, hlx, by rw [← HX.out]; exact HPX.out.symm, HF.out⟩, HB.out.trans (hb1.mono HB.out.size)⟩
      | false =>
        go_wp2_with fail
        with_reducible refine (HCALL.out).mono ?_
        rintro e w1 ⟨rfl, hb1⟩
        go_wp2
        go_roundw
        case rel => exact ⟨k + 1, by first | rfl | go_num, by omega, Lib.hid (take_snoc_pred hlx HF.out (by rw [← HX.out]; exact HPX.out.symm)), Lib.hid (HB.out.trans (hb1.mono HB.out.size))⟩
        case measure => simp [RowKit.intOf]; omega
    · obtain rfl : k = n := by omega
      clear HC
      go_wp2
      go_ret
      exact ⟨-1, rfl, Or.inl ⟨rfl, fun x hx => HF.out x (by rw [HN.out, List.take_length]; exact hx)⟩, HB.out⟩

set_option maxHeartbeats 1000000 in
theorem kpContains_any (f : Nat) (lb : Array Value) (eg : ∀ args w, (callFunc f args).run Try.prog w = .ok (.enter f args) w) (p : Kp → Bool) (xs : List Kp) (v : Value) (w : World)
    (hr : ListAt kpC 3 w v xs) (hlen : xs.length ≤ 1000000) (hp : kpPred f lb p xs fun W => Below w.heap.size w W) :
    Calls Try.prog 62 #[v, .func (.func f) #[] lb] w fun e w' => e = .returned (.bool (xs.any p)) ∧ Below w.heap.size w w' := by
  have HI := Lib.hid (kpIndex_any f lb eg p xs v w hr hlen hp)
  obtain ⟨c, hc⟩ : ∃ c, c = xs.any p := ⟨_, rfl⟩
  rw [← hc]
  have HCC := Lib.hid hc
  clear hr hp hc
  go_enter Try.func62, Try.ntmps62
  go_wp2_with fail
  refine (HI.out).mono ?_
  rintro e w1 ⟨i, rfl, hi, hb⟩
  rcases hi with ⟨rfl, hall⟩ | ⟨k, rfl, hk, hpk, _⟩
  · obtain rfl : c = false := HCC.out.trans (List.any_eq_false.2 fun x hx => by rw [hall x hx]; simp)
    clear hall HCC
    go_wp2
    go_ret
    exact ⟨rfl, hb⟩
  · obtain rfl : c = true := HCC.out.trans (List.any_eq_true.2 ⟨xs[k], List.getElem_mem hk, hpk⟩)
    have hk0 : (0 : Int) ≤ (k : Int) := by omega
    clear hpk HCC
    go_wp2
    go_ret
    exact ⟨rfl, hb⟩


set_option maxRecDepth 100000 in
set_option maxHeartbeats 8000000 in
theorem swKeptC_any (a : Acc) (su en : Value) (x : Kp) (bA : Nat) (w : World) (hb : w.heap[bA]? = some (.cells #[.int .i64 a.credit, su, en] 28 (0, 0))) (h : SubsAt w su a.subs) (hlen : a.subs.length ≤ 1000000) (hx : (atS a.subs x.sub).isSome = true) :
    Calls Try.prog 61 (#[.agg (kpC x).toArray] ++ #[.pointer (some ⟨bA, 0, none⟩)]) w fun e w' => e = .returned (.bool (!(decide (x.low ≤ balOf a.subs x.sub) && decide (balOf a.subs x.sub ≤ x.high)))) ∧ Below w.heap.size w w' := by
  have HBX := Lib.hid (fun W (hW : Below w.heap.size w W) => swbalance_any a su en x.sub W (h.below hW) hlen hx)
  obtain ⟨bq, hbq⟩ : ∃ bq, bq = balOf a.subs x.sub := ⟨_, rfl⟩
  rw [← hbq] at HBX ⊢
  obtain ⟨x0, x1, x2⟩ := x
  simp only [kpC] at HBX ⊢
  obtain ⟨r, hr⟩ : ∃ r, r = !(decide (x1 ≤ bq) && decide (bq ≤ x2)) := ⟨_, rfl⟩
  rw [← hr]
  obtain ⟨w6, hw6⟩ : ∃ w6, w6 = w.alloc (.cells #[.int .i64 x0, .int .i64 x1, .int .i64 x2] 50) := ⟨_, rfl⟩
  obtain ⟨bK, hbK⟩ : ∃ bK, bK = w.heap.size := ⟨_, rfl⟩
  have HK6 : Hid (w6.heap[bK]? = some (.cells #[.int .i64 x0, .int .i64 x1, .int .i64 x2] 50 (0, 0))) := Lib.hid (by rw [hw6, hbK]; exact heap_alloc_new w _)
  have HB6 : Hid (Below w.heap.size w w6) := Lib.hid (by rw [hw6]; exact below_alloc w _)
  have HX6 := Lib.hid (obj_below hb HB6.out)
  obtain ⟨J, hJ⟩ : ∃ J, J = fun W : World => Below w6.heap.size w6 W := ⟨_, rfl⟩
  have HJO : Hid (∀ W, J W → Below w6.heap.size w6 W) := Lib.hid fun W hW => by rw [hJ] at hW; exact hW
  have HJI : Hid (∀ W, Below w6.heap.size w6 W → J W) := Lib.hid fun W hW => by rw [hJ]; exact hW
  have HJD : Hid (∀ W, J W → J W.drew) := Lib.hid fun W hW => HJI.out _ ((HJO.out W hW).drew)
  have HJ0 : Hid (J w6) := Lib.hid (HJI.out _ (Below.refl _ _))
  have HCL : Hid (∀ W, J W → ∀ j, W.cell? ⟨bA, j, none⟩ = #[.int .i64 a.credit, su, en][j]?) := Lib.hid fun W hW j => obj_cell (obj_below HX6.out (HJO.out W hW)) j
  have HCK : Hid (∀ W, J W → ∀ j, W.cell? ⟨bK, j, none⟩ = #[.int .i64 x0, .int .i64 x1, .int .i64 x2][j]?) := Lib.hid fun W hW j => obj_cell (obj_below HK6.out (HJO.out W hW)) j
  have HFIN : Hid (∀ W, J W → Below w.heap.size w W) := Lib.hid fun W hW => HB6.out.trans ((HJO.out W hW).mono HB6.out.size)
  have HBQ : Hid (∀ W, J W → Calls Try.prog 58 #[.agg #[.int .i64 a.credit, su, en], .int .i64 x0] W fun e w' => e = .returned (.int .i64 bq) ∧ J w') := Lib.hid fun W hW =>
    (HBX.out W (HFIN.out W hW)).mono fun e w' g => ⟨g.1, HJI.out _ ((HJO.out W hW).trans (g.2.mono (HJO.out W hW).size))⟩
  have egB := enters_of Try.func58 (by kernel_rfl) rfl
  have HR0 := Lib.hid hr
  have HAR : Hid (∀ v : Value, v = .bool r → Ending.returned v = Ending.returned (.bool r)) := Lib.hid fun v h => by rw [h]
  clear hJ h hb hlen hx hbq hr HBX HB6 HX6 HK6
  by_cases h1 : bq < x1
  · have hq1 : bq < x1 := h1
    have hq2 : True := trivial
    have HR : Hid (true = r) := Lib.hid (by rw [HR0.out, show decide (x1 ≤ bq) = false from decide_eq_false (by omega)]; rfl)
    clear h1
    go_enter Try.func61, Try.ntmps61
    go_upto_region 1 with fail
    rw [← hbK, ← hw6]
    clear hbK hw6
    refine wp_region_props [4, 5, 6, 7, 8, 9, 10, 11, 12, 13, 14, 15, 16, 17, 18, 19, 3] (slotS [4, 5, 6, 7, 8, 9, 10, 11, 12, 13, 14, 15, 16, 17, 18, 19, 3]) (readsS [4, 5, 6, 7, 8, 9, 10, 11, 12, 13, 14, 15, 16, 17, 18, 19, 3]) (RTs [4, 5, 6, 7, 8, 9, 10, 11, 12, 13, 14, 15, 16, 17, 18, 19, 3] [.agg #[.int .i64 a.credit, su, en], .pointer (some ⟨bK, 0, none⟩), .int .i64 x0, .int .i64 bq, .pointer (some ⟨bK, 1, none⟩), .int .i64 x1, .bool true, .bool true, undef, undef, undef, undef, undef, undef, undef, .bool true, .bool true]) J (by kernel_rfl) (by kernel_rfl) (by kernel_rfl) (HJD.out _ HJ0.out) (fun j f q v W hq h => RTs.upd hq h) ?_ ?_
    case refine_1 =>
      intro iq hiq f W hIW hdep
      have hiq' : iq < 17 := hiq
      generalize ha1 : putsL _ [4, 5, 6, 7, 8, 9, 10, 11, 12, 13, 14, 15, 16, 17, 18, 19, 3] f = a1
      match iq, hiq', hdep with
      | 0, _, hdep =>
        have E1 : a1.tmps[1]?.getD undef = .pointer (some ⟨bA, 0, none⟩) := by rw [← ha1]; exact (putsL_out2 _ _ _ _ (by decide)).trans rfl
        have v0 : W.cell? ⟨bA, 0, none⟩ = some (.int .i64 a.credit) := by simpa using HCL.out W hIW 0
        have v1 : W.cell? ⟨bA, 1, none⟩ = some (su) := by simpa using HCL.out W hIW 1
        have v2 : W.cell? ⟨bA, 2, none⟩ = some (en) := by simpa using HCL.out W hIW 2
        exact wpOp_val rfl rfl (v := .agg #[.int .i64 a.credit, su, en]) (w' := W) (by simp [execOp, go_sem, E1, v0, v1, v2]) ⟨hIW, fun _ h => h, Or.inl ⟨_, by decide, rfl, updF_same _ _ _⟩⟩
      | 1, _, hdep =>
        have E2 : a1.tmps[2]?.getD undef = .pointer (some ⟨bK, 0, none⟩) := by rw [← ha1]; exact (putsL_out2 _ _ _ _ (by decide)).trans rfl
        exact wpOp_val rfl rfl (v := .pointer (some ⟨bK, 0, none⟩)) (w' := W) (by simp [execOp, go_sem, E2]) ⟨hIW, fun _ h => h, Or.inl ⟨_, by decide, rfl, updF_same _ _ _⟩⟩
      | 2, _, hdep =>
        have E5 : a1.tmps[5]?.getD undef = .pointer (some ⟨bK, 0, none⟩) := by rw [← ha1]; exact (putsL_in2 _ _ _ _ (by decide) (show 5 < 20 from by decide)).trans (hdep 1 (by kernel_rfl))
        have v0 : W.cell? ⟨bK, 0, none⟩ = some (.int .i64 x0) := by simpa using HCK.out W hIW 0
        exact wpOp_val rfl rfl (v := .int .i64 x0) (w' := W) (by simp [execOp, go_sem, E5, v0]) ⟨hIW, fun _ h => h, Or.inl ⟨_, by decide, rfl, updF_same _ _ _⟩⟩
      | 3, _, hdep =>
        have E4 : a1.tmps[4]?.getD undef = .agg #[.int .i64 a.credit, su, en] := by rw [← ha1]; exact (putsL_in2 _ _ _ _ (by decide) (show 4 < 20 from by decide)).trans (hdep 0 (by kernel_rfl))
        have E6 : a1.tmps[6]?.getD undef = .int .i64 x0 := by rw [← ha1]; exact (putsL_in2 _ _ _ _ (by decide) (show 6 < 20 from by decide)).trans (hdep 2 (by kernel_rfl))
        refine wpOp_call rfl rfl (n := 58) (vs := #[.agg #[.int .i64 a.credit, su, en], .int .i64 x0]) (by have := egB #[.agg #[.int .i64 a.credit, su, en], .int .i64 x0] W; simp [execOp, E4, E6, resolve, invoke, go_sem] <;> exact this) ((HBQ.out W hIW).mono fun e w' h => (⟨_, h.1, rfl, h.2⟩ : ∃ v, e = .returned v ∧ (v = .int .i64 bq ∧ J w'))) ?_
        rintro v w' ⟨rfl, hI'⟩
        exact ⟨hI', fun _ h => h, Or.inl ⟨_, by decide, rfl, updF_same _ _ _⟩⟩
      | 4, _, hdep =>
        have E2 : a1.tmps[2]?.getD undef = .pointer (some ⟨bK, 0, none⟩) := by rw [← ha1]; exact (putsL_out2 _ _ _ _ (by decide)).trans rfl
        exact wpOp_val rfl rfl (v := .pointer (some ⟨bK, 1, none⟩)) (w' := W) (by simp [execOp, go_sem, E2]) ⟨hIW, fun _ h => h, Or.inl ⟨_, by decide, rfl, updF_same _ _ _⟩⟩
      | 5, _, hdep =>
        have E8 : a1.tmps[8]?.getD undef = .pointer (some ⟨bK, 1, none⟩) := by rw [← ha1]; exact (putsL_in2 _ _ _ _ (by decide) (show 8 < 20 from by decide)).trans (hdep 4 (by kernel_rfl))
        have v1 : W.cell? ⟨bK, 1, none⟩ = some (.int .i64 x1) := by simpa using HCK.out W hIW 1
        exact wpOp_val rfl rfl (v := .int .i64 x1) (w' := W) (by simp [execOp, go_sem, E8, v1]) ⟨hIW, fun _ h => h, Or.inl ⟨_, by decide, rfl, updF_same _ _ _⟩⟩
      | 6, _, hdep =>
        have E7 : a1.tmps[7]?.getD undef = .int .i64 bq := by rw [← ha1]; exact (putsL_in2 _ _ _ _ (by decide) (show 7 < 20 from by decide)).trans (hdep 3 (by kernel_rfl))
        have E9 : a1.tmps[9]?.getD undef = .int .i64 x1 := by rw [← ha1]; exact (putsL_in2 _ _ _ _ (by decide) (show 9 < 20 from by decide)).trans (hdep 5 (by kernel_rfl))
        exact wpOp_val rfl rfl (v := .bool true) (w' := W) (by simp [execOp, go_sem, E7, E9, hq1]) ⟨hIW, fun _ h => h, Or.inl ⟨_, by decide, rfl, updF_same _ _ _⟩⟩
      | 7, _, hdep =>
        have E10 : a1.tmps[10]?.getD undef = .bool true := by rw [← ha1]; exact (putsL_in2 _ _ _ _ (by decide) (show 10 < 20 from by decide)).trans (hdep 6 (by kernel_rfl))
        exact wpOp_val rfl rfl (v := .bool true) (w' := W) (by simp [execOp, go_sem, E10]) ⟨hIW, fun _ h => h, Or.inl ⟨_, by decide, rfl, updF_same _ _ _⟩⟩
      | 8, _, hdep =>
        have G7 : a1.tmps[11]? = some (.bool true) := by rw [← ha1]; exact (putsL_some _ _ _ _ (by decide) (show 11 < 20 from by decide)).trans (congrArg some (hdep 7 (by kernel_rfl)))
        exact wpOp_off rfl rfl (yielded_of rfl G7) ⟨hIW, fun _ h => h, Or.inl ⟨_, by decide, rfl, updF_same _ _ _⟩⟩
      | 9, _, hdep =>
        have G7 : a1.tmps[11]? = some (.bool true) := by rw [← ha1]; exact (putsL_some _ _ _ _ (by decide) (show 11 < 20 from by decide)).trans (congrArg some (hdep 7 (by kernel_rfl)))
        exact wpOp_off rfl rfl (yielded_of rfl G7) ⟨hIW, fun _ h => h, Or.inl ⟨_, by decide, rfl, updF_same _ _ _⟩⟩
      | 10, _, hdep =>
        have G7 : a1.tmps[11]? = some (.bool true) := by rw [← ha1]; exact (putsL_some _ _ _ _ (by decide) (show 11 < 20 from by decide)).trans (congrArg some (hdep 7 (by kernel_rfl)))
        exact wpOp_off rfl rfl (yielded_of rfl G7) ⟨hIW, fun _ h => h, Or.inl ⟨_, by decide, rfl, updF_same _ _ _⟩⟩
      | 11, _, hdep =>
        have G7 : a1.tmps[11]? = some (.bool true) := by rw [← ha1]; exact (putsL_some _ _ _ _ (by decide) (show 11 < 20 from by decide)).trans (congrArg some (hdep 7 (by kernel_rfl)))
        exact wpOp_off rfl rfl (yielded_of rfl G7) ⟨hIW, fun _ h => h, Or.inl ⟨_, by decide, rfl, updF_same _ _ _⟩⟩
      | 12, _, hdep =>
        have G7 : a1.tmps[11]? = some (.bool true) := by rw [← ha1]; exact (putsL_some _ _ _ _ (by decide) (show 11 < 20 from by decide)).trans (congrArg some (hdep 7 (by kernel_rfl)))
        exact wpOp_off rfl rfl (yielded_of rfl G7) ⟨hIW, fun _ h => h, Or.inl ⟨_, by decide, rfl, updF_same _ _ _⟩⟩
      | 13, _, hdep =>
        have G7 : a1.tmps[11]? = some (.bool true) := by rw [← ha1]; exact (putsL_some _ _ _ _ (by decide) (show 11 < 20 from by decide)).trans (congrArg some (hdep 7 (by kernel_rfl)))
        exact wpOp_off rfl rfl (yielded_of rfl G7) ⟨hIW, fun _ h => h, Or.inl ⟨_, by decide, rfl, updF_same _ _ _⟩⟩
      | 14, _, hdep =>
        have G7 : a1.tmps[11]? = some (.bool true) := by rw [← ha1]; exact (putsL_some _ _ _ _ (by decide) (show 11 < 20 from by decide)).trans (congrArg some (hdep 7 (by kernel_rfl)))
        exact wpOp_off rfl rfl (yielded_of rfl G7) ⟨hIW, fun _ h => h, Or.inl ⟨_, by decide, rfl, updF_same _ _ _⟩⟩
      | 15, _, hdep =>
        have E11 : a1.tmps[11]?.getD undef = .bool true := by rw [← ha1]; exact (putsL_in2 _ _ _ _ (by decide) (show 11 < 20 from by decide)).trans (hdep 7 (by kernel_rfl))
        exact wpOp_val rfl rfl (v := .bool true) (w' := W) (by simp [execOp, go_sem, E11]) ⟨hIW, fun _ h => h, Or.inl ⟨_, by decide, rfl, updF_same _ _ _⟩⟩
      | 16, _, hdep =>
        have E19 : a1.tmps[19]?.getD undef = .bool true := by rw [← ha1]; exact (putsL_in2 _ _ _ _ (by decide) (show 19 < 20 from by decide)).trans (hdep 15 (by kernel_rfl))
        exact wpOp_val rfl rfl (v := .bool true) (w' := W) (by simp [execOp, go_sem, E19]) ⟨hIW, fun _ h => h, Or.inl ⟨_, by decide, rfl, updF_same _ _ _⟩⟩
      | iq + 17, h, _ => exact absurd h (by omega)
    case refine_2 =>
      intro f W hIW hR
      have h3 : f 3 = .bool true := hR 16 (show 16 < 17 from by decide)
      simp only [putsL, List.foldl_cons, List.foldl_nil, Act.put, List.setIfInBounds_toArray, List.set_cons_zero, List.set_cons_succ]
      go_wp2
      go_ret
      rw [← HR.out]
      first
        | exact ⟨rfl, HFIN.out _ hIW⟩
        | exact ⟨congrArg Ending.returned h3, HFIN.out _ hIW⟩
  · have hq1 : ¬ bq < x1 := h1
    by_cases h2 : x2 < bq
    · have hq2 : x2 < bq := h2
      have HR : Hid (true = r) := Lib.hid (by rw [HR0.out, show decide (bq ≤ x2) = false from decide_eq_false (by omega), Bool.and_false]; rfl)
      clear h1 h2
      go_enter Try.func61, Try.ntmps61
      go_upto_region 1 with fail
      rw [← hbK, ← hw6]
      clear hbK hw6
      refine wp_region_props [4, 5, 6, 7, 8, 9, 10, 11, 12, 13, 14, 15, 16, 17, 18, 19, 3] (slotS [4, 5, 6, 7, 8, 9, 10, 11, 12, 13, 14, 15, 16, 17, 18, 19, 3]) (readsS [4, 5, 6, 7, 8, 9, 10, 11, 12, 13, 14, 15, 16, 17, 18, 19, 3]) (RTs [4, 5, 6, 7, 8, 9, 10, 11, 12, 13, 14, 15, 16, 17, 18, 19, 3] [.agg #[.int .i64 a.credit, su, en], .pointer (some ⟨bK, 0, none⟩), .int .i64 x0, .int .i64 bq, .pointer (some ⟨bK, 1, none⟩), .int .i64 x1, .bool false, .bool false, .agg #[.int .i64 a.credit, su, en], .pointer (some ⟨bK, 0, none⟩), .int .i64 x0, .int .i64 bq, .pointer (some ⟨bK, 2, none⟩), .int .i64 x2, .bool true, .bool true, .bool true]) J (by kernel_rfl) (by kernel_rfl) (by kernel_rfl) (HJD.out _ HJ0.out) (fun j f q v W hq h => RTs.upd hq h) ?_ ?_
      case refine_1 =>
        intro iq hiq f W hIW hdep
        have hiq' : iq < 17 := hiq
        generalize ha1 : putsL _ [4, 5, 6, 7, 8, 9, 10, 11, 12, 13, 14, 15, 16, 17, 18, 19, 3] f = a1
        match iq, hiq', hdep with
        | 0, _, hdep =>
          have E1 : a1.tmps[1]?.getD undef = .pointer (some ⟨bA, 0, none⟩) := by rw [← ha1]; exact (putsL_out2 _ _ _ _ (by decide)).trans rfl
          have v0 : W.cell? ⟨bA, 0, none⟩ = some (.int .i64 a.credit) := by simpa using HCL.out W hIW 0
          have v1 : W.cell? ⟨bA, 1, none⟩ = some (su) := by simpa using HCL.out W hIW 1
          have v2 : W.cell? ⟨bA, 2, none⟩ = some (en) := by simpa using HCL.out W hIW 2
          exact wpOp_val rfl rfl (v := .agg #[.int .i64 a.credit, su, en]) (w' := W) (by simp [execOp, go_sem, E1, v0, v1, v2]) ⟨hIW, fun _ h => h, Or.inl ⟨_, by decide, rfl, updF_same _ _ _⟩⟩
        | 1, _, hdep =>
          have E2 : a1.tmps[2]?.getD undef = .pointer (some ⟨bK, 0, none⟩) := by rw [← ha1]; exact (putsL_out2 _ _ _ _ (by decide)).trans rfl
          exact wpOp_val rfl rfl (v := .pointer (some ⟨bK, 0, none⟩)) (w' := W) (by simp [execOp, go_sem, E2]) ⟨hIW, fun _ h => h, Or.inl ⟨_, by decide, rfl, updF_same _ _ _⟩⟩
        | 2, _, hdep =>
          have E5 : a1.tmps[5]?.getD undef = .pointer (some ⟨bK, 0, none⟩) := by rw [← ha1]; exact (putsL_in2 _ _ _ _ (by decide) (show 5 < 20 from by decide)).trans (hdep 1 (by kernel_rfl))
          have v0 : W.cell? ⟨bK, 0, none⟩ = some (.int .i64 x0) := by simpa using HCK.out W hIW 0
          exact wpOp_val rfl rfl (v := .int .i64 x0) (w' := W) (by simp [execOp, go_sem, E5, v0]) ⟨hIW, fun _ h => h, Or.inl ⟨_, by decide, rfl, updF_same _ _ _⟩⟩
        | 3, _, hdep =>
          have E4 : a1.tmps[4]?.getD undef = .agg #[.int .i64 a.credit, su, en] := by rw [← ha1]; exact (putsL_in2 _ _ _ _ (by decide) (show 4 < 20 from by decide)).trans (hdep 0 (by kernel_rfl))
          have E6 : a1.tmps[6]?.getD undef = .int .i64 x0 := by rw [← ha1]; exact (putsL_in2 _ _ _ _ (by decide) (show 6 < 20 from by decide)).trans (hdep 2 (by kernel_rfl))
          refine wpOp_call rfl rfl (n := 58) (vs := #[.agg #[.int .i64 a.credit, su, en], .int .i64 x0]) (by have := egB #[.agg #[.int .i64 a.credit, su, en], .int .i64 x0] W; simp [execOp, E4, E6, resolve, invoke, go_sem] <;> exact this) ((HBQ.out W hIW).mono fun e w' h => (⟨_, h.1, rfl, h.2⟩ : ∃ v, e = .returned v ∧ (v = .int .i64 bq ∧ J w'))) ?_
          rintro v w' ⟨rfl, hI'⟩
          exact ⟨hI', fun _ h => h, Or.inl ⟨_, by decide, rfl, updF_same _ _ _⟩⟩
        | 4, _, hdep =>
          have E2 : a1.tmps[2]?.getD undef = .pointer (some ⟨bK, 0, none⟩) := by rw [← ha1]; exact (putsL_out2 _ _ _ _ (by decide)).trans rfl
          exact wpOp_val rfl rfl (v := .pointer (some ⟨bK, 1, none⟩)) (w' := W) (by simp [execOp, go_sem, E2]) ⟨hIW, fun _ h => h, Or.inl ⟨_, by decide, rfl, updF_same _ _ _⟩⟩
        | 5, _, hdep =>
          have E8 : a1.tmps[8]?.getD undef = .pointer (some ⟨bK, 1, none⟩) := by rw [← ha1]; exact (putsL_in2 _ _ _ _ (by decide) (show 8 < 20 from by decide)).trans (hdep 4 (by kernel_rfl))
          have v1 : W.cell? ⟨bK, 1, none⟩ = some (.int .i64 x1) := by simpa using HCK.out W hIW 1
          exact wpOp_val rfl rfl (v := .int .i64 x1) (w' := W) (by simp [execOp, go_sem, E8, v1]) ⟨hIW, fun _ h => h, Or.inl ⟨_, by decide, rfl, updF_same _ _ _⟩⟩
        | 6, _, hdep =>
          have E7 : a1.tmps[7]?.getD undef = .int .i64 bq := by rw [← ha1]; exact (putsL_in2 _ _ _ _ (by decide) (show 7 < 20 from by decide)).trans (hdep 3 (by kernel_rfl))
          have E9 : a1.tmps[9]?.getD undef = .int .i64 x1 := by rw [← ha1]; exact (putsL_in2 _ _ _ _ (by decide) (show 9 < 20 from by decide)).trans (hdep 5 (by kernel_rfl))
          exact wpOp_val rfl rfl (v := .bool false) (w' := W) (by simp [execOp, go_sem, E7, E9, hq1]) ⟨hIW, fun _ h => h, Or.inl ⟨_, by decide, rfl, updF_same _ _ _⟩⟩
        | 7, _, hdep =>
          have E10 : a1.tmps[10]?.getD undef = .bool false := by rw [← ha1]; exact (putsL_in2 _ _ _ _ (by decide) (show 10 < 20 from by decide)).trans (hdep 6 (by kernel_rfl))
          exact wpOp_val rfl rfl (v := .bool false) (w' := W) (by simp [execOp, go_sem, E10]) ⟨hIW, fun _ h => h, Or.inl ⟨_, by decide, rfl, updF_same _ _ _⟩⟩
        | 8, _, hdep =>
          have G7 : a1.tmps[11]? = some (.bool false) := by rw [← ha1]; exact (putsL_some _ _ _ _ (by decide) (show 11 < 20 from by decide)).trans (congrArg some (hdep 7 (by kernel_rfl)))
          have E1 : a1.tmps[1]?.getD undef = .pointer (some ⟨bA, 0, none⟩) := by rw [← ha1]; exact (putsL_out2 _ _ _ _ (by decide)).trans rfl
          have v0 : W.cell? ⟨bA, 0, none⟩ = some (.int .i64 a.credit) := by simpa using HCL.out W hIW 0
          have v1 : W.cell? ⟨bA, 1, none⟩ = some (su) := by simpa using HCL.out W hIW 1
          have v2 : W.cell? ⟨bA, 2, none⟩ = some (en) := by simpa using HCL.out W hIW 2
          exact wpOp_valG rfl rfl (yielded_of rfl G7) (v := .agg #[.int .i64 a.credit, su, en]) (w' := W) (by simp [execOp, go_sem, E1, v0, v1, v2]) ⟨hIW, fun _ h => h, Or.inl ⟨_, by decide, rfl, updF_same _ _ _⟩⟩
        | 9, _, hdep =>
          have G7 : a1.tmps[11]? = some (.bool false) := by rw [← ha1]; exact (putsL_some _ _ _ _ (by decide) (show 11 < 20 from by decide)).trans (congrArg some (hdep 7 (by kernel_rfl)))
          have E2 : a1.tmps[2]?.getD undef = .pointer (some ⟨bK, 0, none⟩) := by rw [← ha1]; exact (putsL_out2 _ _ _ _ (by decide)).trans rfl
          exact wpOp_valG rfl rfl (yielded_of rfl G7) (v := .pointer (some ⟨bK, 0, none⟩)) (w' := W) (by simp [execOp, go_sem, E2]) ⟨hIW, fun _ h => h, Or.inl ⟨_, by decide, rfl, updF_same _ _ _⟩⟩
        | 10, _, hdep =>
          have G7 : a1.tmps[11]? = some (.bool false) := by rw [← ha1]; exact (putsL_some _ _ _ _ (by decide) (show 11 < 20 from by decide)).trans (congrArg some (hdep 7 (by kernel_rfl)))
          have E13 : a1.tmps[13]?.getD undef = .pointer (some ⟨bK, 0, none⟩) := by rw [← ha1]; exact (putsL_in2 _ _ _ _ (by decide) (show 13 < 20 from by decide)).trans (hdep 9 (by kernel_rfl))
          have v0 : W.cell? ⟨bK, 0, none⟩ = some (.int .i64 x0) := by simpa using HCK.out W hIW 0
          exact wpOp_valG rfl rfl (yielded_of rfl G7) (v := .int .i64 x0) (w' := W) (by simp [execOp, go_sem, E13, v0]) ⟨hIW, fun _ h => h, Or.inl ⟨_, by decide, rfl, updF_same _ _ _⟩⟩
        | 11, _, hdep =>
          have G7 : a1.tmps[11]? = some (.bool false) := by rw [← ha1]; exact (putsL_some _ _ _ _ (by decide) (show 11 < 20 from by decide)).trans (congrArg some (hdep 7 (by kernel_rfl)))
          have E12 : a1.tmps[12]?.getD undef = .agg #[.int .i64 a.credit, su, en] := by rw [← ha1]; exact (putsL_in2 _ _ _ _ (by decide) (show 12 < 20 from by decide)).trans (hdep 8 (by kernel_rfl))
          have E14 : a1.tmps[14]?.getD undef = .int .i64 x0 := by rw [← ha1]; exact (putsL_in2 _ _ _ _ (by decide) (show 14 < 20 from by decide)).trans (hdep 10 (by kernel_rfl))
          refine wpOp_callG rfl rfl (yielded_of rfl G7) (n := 58) (vs := #[.agg #[.int .i64 a.credit, su, en], .int .i64 x0]) (by have := egB #[.agg #[.int .i64 a.credit, su, en], .int .i64 x0] W; simp [execOp, E12, E14, resolve, invoke, go_sem] <;> exact this) ((HBQ.out W hIW).mono fun e w' h => (⟨_, h.1, rfl, h.2⟩ : ∃ v, e = .returned v ∧ (v = .int .i64 bq ∧ J w'))) ?_
          rintro v w' ⟨rfl, hI'⟩
          exact ⟨hI', fun _ h => h, Or.inl ⟨_, by decide, rfl, updF_same _ _ _⟩⟩
        | 12, _, hdep =>
          have G7 : a1.tmps[11]? = some (.bool false) := by rw [← ha1]; exact (putsL_some _ _ _ _ (by decide) (show 11 < 20 from by decide)).trans (congrArg some (hdep 7 (by kernel_rfl)))
          have E2 : a1.tmps[2]?.getD undef = .pointer (some ⟨bK, 0, none⟩) := by rw [← ha1]; exact (putsL_out2 _ _ _ _ (by decide)).trans rfl
          exact wpOp_valG rfl rfl (yielded_of rfl G7) (v := .pointer (some ⟨bK, 2, none⟩)) (w' := W) (by simp [execOp, go_sem, E2]) ⟨hIW, fun _ h => h, Or.inl ⟨_, by decide, rfl, updF_same _ _ _⟩⟩
        | 13, _, hdep =>
          have G7 : a1.tmps[11]? = some (.bool false) := by rw [← ha1]; exact (putsL_some _ _ _ _ (by decide) (show 11 < 20 from by decide)).trans (congrArg some (hdep 7 (by kernel_rfl)))
          have E16 : a1.tmps[16]?.getD undef = .pointer (some ⟨bK, 2, none⟩) := by rw [← ha1]; exact (putsL_in2 _ _ _ _ (by decide) (show 16 < 20 from by decide)).trans (hdep 12 (by kernel_rfl))
          have v2 : W.cell? ⟨bK, 2, none⟩ = some (.int .i64 x2) := by simpa using HCK.out W hIW 2
          exact wpOp_valG rfl rfl (yielded_of rfl G7) (v := .int .i64 x2) (w' := W) (by simp [execOp, go_sem, E16, v2]) ⟨hIW, fun _ h => h, Or.inl ⟨_, by decide, rfl, updF_same _ _ _⟩⟩
        | 14, _, hdep =>
          have G7 : a1.tmps[11]? = some (.bool false) := by rw [← ha1]; exact (putsL_some _ _ _ _ (by decide) (show 11 < 20 from by decide)).trans (congrArg some (hdep 7 (by kernel_rfl)))
          have E15 : a1.tmps[15]?.getD undef = .int .i64 bq := by rw [← ha1]; exact (putsL_in2 _ _ _ _ (by decide) (show 15 < 20 from by decide)).trans (hdep 11 (by kernel_rfl))
          have E17 : a1.tmps[17]?.getD undef = .int .i64 x2 := by rw [← ha1]; exact (putsL_in2 _ _ _ _ (by decide) (show 17 < 20 from by decide)).trans (hdep 13 (by kernel_rfl))
          exact wpOp_valG rfl rfl (yielded_of rfl G7) (v := .bool true) (w' := W) (by simp [execOp, go_sem, E15, E17, hq2]) ⟨hIW, fun _ h => h, Or.inl ⟨_, by decide, rfl, updF_same _ _ _⟩⟩
        | 15, _, hdep =>
          have E11 : a1.tmps[11]?.getD undef = .bool false := by rw [← ha1]; exact (putsL_in2 _ _ _ _ (by decide) (show 11 < 20 from by decide)).trans (hdep 7 (by kernel_rfl))
          have E18 : a1.tmps[18]?.getD undef = .bool true := by rw [← ha1]; exact (putsL_in2 _ _ _ _ (by decide) (show 18 < 20 from by decide)).trans (hdep 14 (by kernel_rfl))
          exact wpOp_val rfl rfl (v := .bool true) (w' := W) (by simp [execOp, go_sem, E11, E18]) ⟨hIW, fun _ h => h, Or.inl ⟨_, by decide, rfl, updF_same _ _ _⟩⟩
        | 16, _, hdep =>
          have E19 : a1.tmps[19]?.getD undef = .bool true := by rw [← ha1]; exact (putsL_in2 _ _ _ _ (by decide) (show 19 < 20 from by decide)).trans (hdep 15 (by kernel_rfl))
          exact wpOp_val rfl rfl (v := .bool true) (w' := W) (by simp [execOp, go_sem, E19]) ⟨hIW, fun _ h => h, Or.inl ⟨_, by decide, rfl, updF_same _ _ _⟩⟩
        | iq + 17, h, _ => exact absurd h (by omega)
      case refine_2 =>
        intro f W hIW hR
        have h3 : f 3 = .bool true := hR 16 (show 16 < 17 from by decide)
        simp only [putsL, List.foldl_cons, List.foldl_nil, Act.put, List.setIfInBounds_toArray, List.set_cons_zero, List.set_cons_succ]
        go_wp2
        go_ret
        rw [← HR.out]
        first
          | exact ⟨rfl, HFIN.out _ hIW⟩
          | exact ⟨congrArg Ending.returned h3, HFIN.out _ hIW⟩
    · have hq2 : ¬ x2 < bq := h2
      have HR : Hid (false = r) := Lib.hid (by rw [HR0.out, show decide (bq ≤ x2) = true from decide_eq_true (by omega), show decide (x1 ≤ bq) = true from decide_eq_true (by omega)]; rfl)
      clear h1 h2
      go_enter Try.func61, Try.ntmps61
      go_upto_region 1 with fail
      rw [← hbK, ← hw6]
      clear hbK hw6
      refine wp_region_props [4, 5, 6, 7, 8, 9, 10, 11, 12, 13, 14, 15, 16, 17, 18, 19, 3] (slotS [4, 5, 6, 7, 8, 9, 10, 11, 12, 13, 14, 15, 16, 17, 18, 19, 3]) (readsS [4, 5, 6, 7, 8, 9, 10, 11, 12, 13, 14, 15, 16, 17, 18, 19, 3]) (RTs [4, 5, 6, 7, 8, 9, 10, 11, 12, 13, 14, 15, 16, 17, 18, 19, 3] [.agg #[.int .i64 a.credit, su, en], .pointer (some ⟨bK, 0, none⟩), .int .i64 x0, .int .i64 bq, .pointer (some ⟨bK, 1, none⟩), .int .i64 x1, .bool false, .bool false, .agg #[.int .i64 a.credit, su, en], .pointer (some ⟨bK, 0, none⟩), .int .i64 x0, .int .i64 bq, .pointer (some ⟨bK, 2, none⟩), .int .i64 x2, .bool false, .bool false, .bool false]) J (by kernel_rfl) (by kernel_rfl) (by kernel_rfl) (HJD.out _ HJ0.out) (fun j f q v W hq h => RTs.upd hq h) ?_ ?_
      case refine_1 =>
        intro iq hiq f W hIW hdep
        have hiq' : iq < 17 := hiq
        generalize ha1 : putsL _ [4, 5, 6, 7, 8, 9, 10, 11, 12, 13, 14, 15, 16, 17, 18, 19, 3] f = a1
        match iq, hiq', hdep with
        | 0, _, hdep =>
          have E1 : a1.tmps[1]?.getD undef = .pointer (some ⟨bA, 0, none⟩) := by rw [← ha1]; exact (putsL_out2 _ _ _ _ (by decide)).trans rfl
          have v0 : W.cell? ⟨bA, 0, none⟩ = some (.int .i64 a.credit) := by simpa using HCL.out W hIW 0
          have v1 : W.cell? ⟨bA, 1, none⟩ = some (su) := by simpa using HCL.out W hIW 1
          have v2 : W.cell? ⟨bA, 2, none⟩ = some (en) := by simpa using HCL.out W hIW 2
          exact wpOp_val rfl rfl (v := .agg #[.int .i64 a.credit, su, en]) (w' := W) (by simp [execOp, go_sem, E1, v0, v1, v2]) ⟨hIW, fun _ h => h, Or.inl ⟨_, by decide, rfl, updF_same _ _ _⟩⟩
        | 1, _, hdep =>
          have E2 : a1.tmps[2]?.getD undef = .pointer (some ⟨bK, 0, none⟩) := by rw [← ha1]; exact (putsL_out2 _ _ _ _ (by decide)).trans rfl
          exact wpOp_val rfl rfl (v := .pointer (some ⟨bK, 0, none⟩)) (w' := W) (by simp [execOp, go_sem, E2]) ⟨hIW, fun _ h => h, Or.inl ⟨_, by decide, rfl, updF_same _ _ _⟩⟩
        | 2, _, hdep =>
          have E5 : a1.tmps[5]?.getD undef = .pointer (some ⟨bK, 0, none⟩) := by rw [← ha1]; exact (putsL_in2 _ _ _ _ (by decide) (show 5 < 20 from by decide)).trans (hdep 1 (by kernel_rfl))
          have v0 : W.cell? ⟨bK, 0, none⟩ = some (.int .i64 x0) := by simpa using HCK.out W hIW 0
          exact wpOp_val rfl rfl (v := .int .i64 x0) (w' := W) (by simp [execOp, go_sem, E5, v0]) ⟨hIW, fun _ h => h, Or.inl ⟨_, by decide, rfl, updF_same _ _ _⟩⟩
        | 3, _, hdep =>
          have E4 : a1.tmps[4]?.getD undef = .agg #[.int .i64 a.credit, su, en] := by rw [← ha1]; exact (putsL_in2 _ _ _ _ (by decide) (show 4 < 20 from by decide)).trans (hdep 0 (by kernel_rfl))
          have E6 : a1.tmps[6]?.getD undef = .int .i64 x0 := by rw [← ha1]; exact (putsL_in2 _ _ _ _ (by decide) (show 6 < 20 from by decide)).trans (hdep 2 (by kernel_rfl))
          refine wpOp_call rfl rfl (n := 58) (vs := #[.agg #[.int .i64 a.credit, su, en], .int .i64 x0]) (by have := egB #[.agg #[.int .i64 a.credit, su, en], .int .i64 x0] W; simp [execOp, E4, E6, resolve, invoke, go_sem] <;> exact this) ((HBQ.out W hIW).mono fun e w' h => (⟨_, h.1, rfl, h.2⟩ : ∃ v, e = .returned v ∧ (v = .int .i64 bq ∧ J w'))) ?_
          rintro v w' ⟨rfl, hI'⟩
          exact ⟨hI', fun _ h => h, Or.inl ⟨_, by decide, rfl, updF_same _ _ _⟩⟩
        | 4, _, hdep =>
          have E2 : a1.tmps[2]?.getD undef = .pointer (some ⟨bK, 0, none⟩) := by rw [← ha1]; exact (putsL_out2 _ _ _ _ (by decide)).trans rfl
          exact wpOp_val rfl rfl (v := .pointer (some ⟨bK, 1, none⟩)) (w' := W) (by simp [execOp, go_sem, E2]) ⟨hIW, fun _ h => h, Or.inl ⟨_, by decide, rfl, updF_same _ _ _⟩⟩
        | 5, _, hdep =>
          have E8 : a1.tmps[8]?.getD undef = .pointer (some ⟨bK, 1, none⟩) := by rw [← ha1]; exact (putsL_in2 _ _ _ _ (by decide) (show 8 < 20 from by decide)).trans (hdep 4 (by kernel_rfl))
          have v1 : W.cell? ⟨bK, 1, none⟩ = some (.int .i64 x1) := by simpa using HCK.out W hIW 1
          exact wpOp_val rfl rfl (v := .int .i64 x1) (w' := W) (by simp [execOp, go_sem, E8, v1]) ⟨hIW, fun _ h => h, Or.inl ⟨_, by decide, rfl, updF_same _ _ _⟩⟩
        | 6, _, hdep =>
          have E7 : a1.tmps[7]?.getD undef = .int .i64 bq := by rw [← ha1]; exact (putsL_in2 _ _ _ _ (by decide) (show 7 < 20 from by decide)).trans (hdep 3 (by kernel_rfl))
          have E9 : a1.tmps[9]?.getD undef = .int .i64 x1 := by rw [← ha1]; exact (putsL_in2 _ _ _ _ (by decide) (show 9 < 20 from by decide)).trans (hdep 5 (by kernel_rfl))
          exact wpOp_val rfl rfl (v := .bool false) (w' := W) (by simp [execOp, go_sem, E7, E9, hq1]) ⟨hIW, fun _ h => h, Or.inl ⟨_, by decide, rfl, updF_same _ _ _⟩⟩
        | 7, _, hdep =>
          have E10 : a1.tmps[10]?.getD undef = .bool false := by rw [← ha1]; exact (putsL_in2 _ _ _ _ (by decide) (show 10 < 20 from by decide)).trans (hdep 6 (by kernel_rfl))
          exact wpOp_val rfl rfl (v := .bool false) (w' := W) (by simp [execOp, go_sem, E10]) ⟨hIW, fun _ h => h, Or.inl ⟨_, by decide, rfl, updF_same _ _ _⟩⟩
        | 8, _, hdep =>
          have G7 : a1.tmps[11]? = some (.bool false) := by rw [← ha1]; exact (putsL_some _ _ _ _ (by decide) (show 11 < 20 from by decide)).trans (congrArg some (hdep 7 (by kernel_rfl)))
          have E1 : a1.tmps[1]?.getD undef = .pointer (some ⟨bA, 0, none⟩) := by rw [← ha1]; exact (putsL_out2 _ _ _ _ (by decide)).trans rfl
          have v0 : W.cell? ⟨bA, 0, none⟩ = some (.int .i64 a.credit) := by simpa using HCL.out W hIW 0
          have v1 : W.cell? ⟨bA, 1, none⟩ = some (su) := by simpa using HCL.out W hIW 1
          have v2 : W.cell? ⟨bA, 2, none⟩ = some (en) := by simpa using HCL.out W hIW 2
          exact wpOp_valG rfl rfl (yielded_of rfl G7) (v := .agg #[.int .i64 a.credit, su, en]) (w' := W) (by simp [execOp, go_sem, E1, v0, v1, v2]) ⟨hIW, fun _ h => h, Or.inl ⟨_, by decide, rfl, updF_same _ _ _⟩⟩
        | 9, _, hdep =>
          have G7 : a1.tmps[11]? = some (.bool false) := by rw [← ha1]; exact (putsL_some _ _ _ _ (by decide) (show 11 < 20 from by decide)).trans (congrArg some (hdep 7 (by kernel_rfl)))
          have E2 : a1.tmps[2]?.getD undef = .pointer (some ⟨bK, 0, none⟩) := by rw [← ha1]; exact (putsL_out2 _ _ _ _ (by decide)).trans rfl
          exact wpOp_valG rfl rfl (yielded_of rfl G7) (v := .pointer (some ⟨bK, 0, none⟩)) (w' := W) (by simp [execOp, go_sem, E2]) ⟨hIW, fun _ h => h, Or.inl ⟨_, by decide, rfl, updF_same _ _ _⟩⟩
        | 10, _, hdep =>
          have G7 : a1.tmps[11]? = some (.bool false) := by rw [← ha1]; exact (putsL_some _ _ _ _ (by decide) (show 11 < 20 from by decide)).trans (congrArg some (hdep 7 (by kernel_rfl)))
          have E13 : a1.tmps[13]?.getD undef = .pointer (some ⟨bK, 0, none⟩) := by rw [← ha1]; exact (putsL_in2 _ _ _ _ (by decide) (show 13 < 20 from by decide)).trans (hdep 9 (by kernel_rfl))
          have v0 : W.cell? ⟨bK, 0, none⟩ = some (.int .i64 x0) := by simpa using HCK.out W hIW 0
          exact wpOp_valG rfl rfl (yielded_of rfl G7) (v := .int .i64 x0) (w' := W) (by simp [execOp, go_sem, E13, v0]) ⟨hIW, fun _ h => h, Or.inl ⟨_, by decide, rfl, updF_same _ _ _⟩⟩
        | 11, _, hdep =>
          have G7 : a1.tmps[11]? = some (.bool false) := by rw [← ha1]; exact (putsL_some _ _ _ _ (by decide) (show 11 < 20 from by decide)).trans (congrArg some (hdep 7 (by kernel_rfl)))
          have E12 : a1.tmps[12]?.getD undef = .agg #[.int .i64 a.credit, su, en] := by rw [← ha1]; exact (putsL_in2 _ _ _ _ (by decide) (show 12 < 20 from by decide)).trans (hdep 8 (by kernel_rfl))
          have E14 : a1.tmps[14]?.getD undef = .int .i64 x0 := by rw [← ha1]; exact (putsL_in2 _ _ _ _ (by decide) (show 14 < 20 from by decide)).trans (hdep 10 (by kernel_rfl))
          refine wpOp_callG rfl rfl (yielded_of rfl G7) (n := 58) (vs := #[.agg #[.int .i64 a.credit, su, en], .int .i64 x0]) (by have := egB #[.agg #[.int .i64 a.credit, su, en], .int .i64 x0] W; simp [execOp, E12, E14, resolve, invoke, go_sem] <;> exact this) ((HBQ.out W hIW).mono fun e w' h => (⟨_, h.1, rfl, h.2⟩ : ∃ v, e = .returned v ∧ (v = .int .i64 bq ∧ J w'))) ?_
          rintro v w' ⟨rfl, hI'⟩
          exact ⟨hI', fun _ h => h, Or.inl ⟨_, by decide, rfl, updF_same _ _ _⟩⟩
        | 12, _, hdep =>
          have G7 : a1.tmps[11]? = some (.bool false) := by rw [← ha1]; exact (putsL_some _ _ _ _ (by decide) (show 11 < 20 from by decide)).trans (congrArg some (hdep 7 (by kernel_rfl)))
          have E2 : a1.tmps[2]?.getD undef = .pointer (some ⟨bK, 0, none⟩) := by rw [← ha1]; exact (putsL_out2 _ _ _ _ (by decide)).trans rfl
          exact wpOp_valG rfl rfl (yielded_of rfl G7) (v := .pointer (some ⟨bK, 2, none⟩)) (w' := W) (by simp [execOp, go_sem, E2]) ⟨hIW, fun _ h => h, Or.inl ⟨_, by decide, rfl, updF_same _ _ _⟩⟩
        | 13, _, hdep =>
          have G7 : a1.tmps[11]? = some (.bool false) := by rw [← ha1]; exact (putsL_some _ _ _ _ (by decide) (show 11 < 20 from by decide)).trans (congrArg some (hdep 7 (by kernel_rfl)))
          have E16 : a1.tmps[16]?.getD undef = .pointer (some ⟨bK, 2, none⟩) := by rw [← ha1]; exact (putsL_in2 _ _ _ _ (by decide) (show 16 < 20 from by decide)).trans (hdep 12 (by kernel_rfl))
          have v2 : W.cell? ⟨bK, 2, none⟩ = some (.int .i64 x2) := by simpa using HCK.out W hIW 2
          exact wpOp_valG rfl rfl (yielded_of rfl G7) (v := .int .i64 x2) (w' := W) (by simp [execOp, go_sem, E16, v2]) ⟨hIW, fun _ h => h, Or.inl ⟨_, by decide, rfl, updF_same _ _ _⟩⟩
        | 14, _, hdep =>
          have G7 : a1.tmps[11]? = some (.bool false) := by rw [← ha1]; exact (putsL_some _ _ _ _ (by decide) (show 11 < 20 from by decide)).trans (congrArg some (hdep 7 (by kernel_rfl)))
          have E15 : a1.tmps[15]?.getD undef = .int .i64 bq := by rw [← ha1]; exact (putsL_in2 _ _ _ _ (by decide) (show 15 < 20 from by decide)).trans (hdep 11 (by kernel_rfl))
          have E17 : a1.tmps[17]?.getD undef = .int .i64 x2 := by rw [← ha1]; exact (putsL_in2 _ _ _ _ (by decide) (show 17 < 20 from by decide)).trans (hdep 13 (by kernel_rfl))
          exact wpOp_valG rfl rfl (yielded_of rfl G7) (v := .bool false) (w' := W) (by simp [execOp, go_sem, E15, E17, hq2]) ⟨hIW, fun _ h => h, Or.inl ⟨_, by decide, rfl, updF_same _ _ _⟩⟩
        | 15, _, hdep =>
          have E11 : a1.tmps[11]?.getD undef = .bool false := by rw [← ha1]; exact (putsL_in2 _ _ _ _ (by decide) (show 11 < 20 from by decide)).trans (hdep 7 (by kernel_rfl))
          have E18 : a1.tmps[18]?.getD undef = .bool false := by rw [← ha1]; exact (putsL_in2 _ _ _ _ (by decide) (show 18 < 20 from by decide)).trans (hdep 14 (by kernel_rfl))
          exact wpOp_val rfl rfl (v := .bool false) (w' := W) (by simp [execOp, go_sem, E11, E18]) ⟨hIW, fun _ h => h, Or.inl ⟨_, by decide, rfl, updF_same _ _ _⟩⟩
        | 16, _, hdep =>
          have E19 : a1.tmps[19]?.getD undef = .bool false := by rw [← ha1]; exact (putsL_in2 _ _ _ _ (by decide) (show 19 < 20 from by decide)).trans (hdep 15 (by kernel_rfl))
          exact wpOp_val rfl rfl (v := .bool false) (w' := W) (by simp [execOp, go_sem, E19]) ⟨hIW, fun _ h => h, Or.inl ⟨_, by decide, rfl, updF_same _ _ _⟩⟩
        | iq + 17, h, _ => exact absurd h (by omega)
      case refine_2 =>
        intro f W hIW hR
        have h3 : f 3 = .bool false := hR 16 (show 16 < 17 from by decide)
        simp only [putsL, List.foldl_cons, List.foldl_nil, Act.put, List.setIfInBounds_toArray, List.set_cons_zero, List.set_cons_succ]
        go_wp2
        go_ret
        rw [← HR.out]
        first
          | exact ⟨rfl, HFIN.out _ hIW⟩
          | exact ⟨congrArg Ending.returned h3, HFIN.out _ hIW⟩

theorem any_not {α : Type} (p : α → Bool) : ∀ l : List α, l.any (fun x => !p x) = !(l.all p)
  | [] => rfl
  | x :: l => by simp [any_not p l]

set_option maxRecDepth 100000 in
set_option maxHeartbeats 4000000 in
theorem swKept_right (a : Acc) (ks : List Kp) (su en kv : Value) (w : World) (h : SubsAt w su a.subs) (he : EntsAt w en a.ents) (hk : KeepsAt w kv ks) (hkl : ks.length ≤ 1000) (hr : checkM a = 0) (hks : keepsB a.subs 0 true ks = true) :
    Calls Try.prog 23 #[.agg #[.int .i64 a.credit, su, en], kv] w fun e w' => e = .returned (.bool (keptL a.subs ks)) ∧ Below w.heap.size w w' := by
  have hz := checkM_zero.1 hr
  have HB0 := Lib.hid (below_alloc w (.cells #[.int .i64 a.credit, su, en] 28))
  have HX0 := Lib.hid (heap_alloc_new w (.cells #[.int .i64 a.credit, su, en] 28))
  have HCK := Lib.hid (fun W (hW : Below w.heap.size w W) => swCheck_right a ks su en kv W (h.below hW) (he.below hW) (hk.below hW) hkl hr hks)
  have HCN : Hid (∀ (bA : Nat) W, W.heap[bA]? = some (.cells #[.int .i64 a.credit, su, en] 28 (0, 0)) → Below w.heap.size w W → Calls Try.prog 62 #[kv, .func (.func 61) #[] #[.pointer (some ⟨bA, 0, none⟩)]] W fun e w' => e = .returned (.bool (!keptL a.subs ks)) ∧ Below W.heap.size W w') := Lib.hid fun bA W hb hW => by
    have g := kpContains_any 61 #[.pointer (some ⟨bA, 0, none⟩)] (enters_of Try.func61 (by kernel_rfl) rfl) (fun x => !(decide (x.low ≤ balOf a.subs x.sub) && decide (balOf a.subs x.sub ≤ x.high))) ks kv W (hk.below hW) (by omega) fun x hx V hV =>
      swKeptC_any a su en x bA V (obj_below hb hV) (h.below (hW.trans (hV.mono hW.size))) (by omega) (keepsB_mem hks x hx).1.1
    rw [any_not] at g
    exact g
  obtain ⟨ao, cap, rfl, -, -⟩ := hk.open
  obtain ⟨c, hc⟩ : ∃ c, c = keptL a.subs ks := ⟨_, rfl⟩
  rw [← hc] at HCN ⊢
  clear hz h he hk hr hks hc
  generalize ks.length = n at *
  go_enter Try.func23, Try.ntmps23
  go_wp2_with fail
  refine (HCK.out _ HB0.out).mono ?_
  rintro e w1 ⟨rfl, hb1⟩
  have HB1 := Lib.hid (HB0.out.trans (hb1.mono HB0.out.size))
  have HX1 := Lib.hid (obj_below HX0.out hb1)
  clear hb1
  go_wp2_with fail
  refine (HCN.out _ _ HX1.out HB1.out).mono ?_
  rintro e w2 ⟨rfl, hb2⟩
  have HB2 := Lib.hid (HB1.out.trans (hb2.mono HB1.out.size))
  clear hb2
  cases c with
  | true =>
    go_wp2
    go_ret
    exact ⟨rfl, HB2.out⟩
  | false =>
    go_wp2
    go_ret
    exact ⟨rfl, HB2.out⟩

theorem shortL_take (l : List SubA) {ks : List Kp} {k : Nat} (hk : k < ks.length) : shortL l (ks.take (k + 1)) = shortL l (ks.take k) + max ((keepAt ks k).low - balOf l (keepAt ks k).sub) 0 := by
  rw [List.take_succ_eq_append_getElem hk, shortL_app, keepAt_get hk]

set_option maxRecDepth 100000 in
set_option maxHeartbeats 8000000 in
theorem swShort_right (a : Acc) (ks : List Kp) (su en kv : Value) (w : World) (h : SubsAt w su a.subs) (he : EntsAt w en a.ents) (hk : KeepsAt w kv ks) (hkl : ks.length ≤ 1000) (hr : checkM a = 0) (hks : keepsB a.subs 0 true ks = true) :
    Calls Try.prog 20 #[.agg #[.int .i64 a.credit, su, en], kv] w fun e w' => e = .returned (.int .i64 (shortL a.subs ks)) ∧ Below w.heap.size w w' := by
  have hz := checkM_zero.1 hr
  have HCK := Lib.hid (fun W (hW : Below w.heap.size w W) => swCheck_right a ks su en kv W (h.below hW) (he.below hW) (hk.below hW) hkl hr hks)
  have HBLQ := Lib.hid (fun id (hid : (atS a.subs id).isSome = true) W (hW : Below w.heap.size w W) => swbalance_any a su en id W (h.below hW) (by omega) hid)
  have HBL := Lib.hid (balOf_range hr)
  have HR := Lib.hid hr
  have HKS := Lib.hid hks
  obtain ⟨ao, cap, rfl, hcap, hcs⟩ := hk.open
  have HCS := Lib.hid hcs
  obtain ⟨n, hn⟩ : ∃ n, n = ks.length := ⟨_, rfl⟩
  have HN := Lib.hid hn
  obtain ⟨r, hrr⟩ : ∃ r, r = shortL a.subs ks := ⟨_, rfl⟩
  have HRR := Lib.hid hrr
  rw [← hn] at hcap hkl HCK ⊢
  rw [← hrr]
  obtain ⟨bA, hbA⟩ : ∃ bA, bA = w.heap.size := ⟨_, rfl⟩
  have HBA := Lib.hid hbA
  have HX0 := Lib.hid (heap_alloc_new w (.cells #[.int .i64 a.credit, su, en] 28))
  have HB0 := Lib.hid (below_alloc w (.cells #[.int .i64 a.credit, su, en] 28))
  clear hn hcs h he hk hz hr hks hbA hrr
  go_enter Try.func20, Try.ntmps20
  go_wp2_with fail
  refine (HCK.out _ HB0.out).mono ?_
  rintro e w1 ⟨rfl, hb1⟩
  have HX1 : Hid (w1.heap[bA]? = some (.cells #[.int .i64 a.credit, su, en] 28 (0, 0))) := Lib.hid (by rw [HBA.out]; exact obj_below HX0.out hb1)
  have HB1 := Lib.hid (HB0.out.trans (hb1.mono HB0.out.size))
  rw [← HBA.out]
  clear hb1 HX0 HB0 HCK
  go_wp2
  go_loopw [5, 14] (fun tv iv wr => ∃ (t : Int) (k : Nat), tv = .int .i64 t ∧ iv = .int .i64 k ∧ k ≤ n ∧ Hid (t = shortL a.subs (ks.take k)) ∧ 0 ≤ t ∧ t ≤ 2000000000000 * (k : Int) ∧ Hid (Below w1.heap.size w1 wr)) (fun _ iv _ => n - (RowKit.intOf iv).toNat)
  case atStart => exact ⟨0, 0, rfl, rfl, by omega, Lib.hid rfl, by omega, by simp, Lib.hid (Below.refl _ _)⟩
  case round =>
    obtain ⟨t, k, rfl, rfl, hkn, HT, ht0, ht1, HB⟩ := hrel
    by_cases hlt : k < n
    · have hkl' : k < ks.length := by rw [← HN.out]; exact hlt
      obtain ⟨b, o, rfl, hb, hcc⟩ := HCS.out (by omega)
      have HWB := Lib.hid (HB1.out.trans (HB.out.mono HB1.out.size))
      obtain ⟨q1, q2, q3, q4, q5⟩ := keepsB_get HKS.out hkl'
      have hcell := fun j (hj : j < 3) => (HWB.out.cell (p := ⟨b, o + k * 3 + j, none⟩) hb).trans (hcc k hkl' j hj)
      have hbq1 := HBL.out (keepAt ks k).sub
      have HTN := Lib.hid (shortL_take a.subs hkl')
      have HBX := Lib.hid (HBLQ.out (keepAt ks k).sub q1)
      generalize keepAt ks k = x at *
      obtain ⟨x0, x1, x2⟩ := x
      simp only at q1 q2 q3 q4 q5 hbq1 HBX HTN
      have c0 := hcell 0 (by omega)
      have c1 := hcell 1 (by omega)
      have c2 := hcell 2 (by omega)
      simp [kpC] at c0 c1 c2
      generalize balOf a.subs x0 = bq at *
      obtain ⟨mx, hmx0⟩ : ∃ mx, mx = max (x1 - bq) 0 := ⟨_, rfl⟩
      have hmx : (if x1 - bq < 0 then 0 else x1 - bq) = mx := by rw [hmx0]; split <;> omega
      have HTM : Hid (t + mx = shortL a.subs (ks.take (k + 1))) := Lib.hid (by rw [HTN.out, ← HT.out, ← hmx0])
      have hm0 : 0 ≤ mx ∧ mx ≤ 2000000000000 := by omega
      have hwr : IntKind.i64.wrap (x1 - bq) = x1 - bq := IntWalk.i64_in _ (by omega)
      have hws : IntKind.i64.wrap (t + mx) = t + mx := IntWalk.i64_in _ (by omega)
      have hk0 : (0 : Int) ≤ (k : Int) := by omega
      have hk1 : (k : Int) < (n : Int) := by omega
      clear hcell hcc q1 q2 q3 q4 q5 hkl' hmx0 HTN hbq1
      go_upto_region 7 with fail
      obtain ⟨w6, hw6⟩ : ∃ w6, w6 = wr.alloc (.cells #[.int .i64 x0, .int .i64 x1, .int .i64 x2] 50) := ⟨_, rfl⟩
      obtain ⟨bK, hbK⟩ : ∃ bK, bK = wr.heap.size := ⟨_, rfl⟩
      have HK6 : Hid (w6.heap[bK]? = some (.cells #[.int .i64 x0, .int .i64 x1, .int .i64 x2] 50 (0, 0))) := Lib.hid (by rw [hw6, hbK]; exact heap_alloc_new wr _)
      have HB6 : Hid (Below w1.heap.size w1 w6) := Lib.hid (by rw [hw6]; exact HB.out.alloc HB.out.size _)
      have HW6 := Lib.hid (HB1.out.trans (HB6.out.mono HB1.out.size))
      have HX6 := Lib.hid (obj_below HX1.out HB6.out)
      rw [← hw6, ← hbK]
      obtain ⟨J, hJ⟩ : ∃ J, J = fun W : World => Below w6.heap.size w6 W := ⟨_, rfl⟩
      have HJO : Hid (∀ W, J W → Below w6.heap.size w6 W) := Lib.hid fun W hW => by rw [hJ] at hW; exact hW
      have HJI : Hid (∀ W, Below w6.heap.size w6 W → J W) := Lib.hid fun W hW => by rw [hJ]; exact hW
      have HJD : Hid (∀ W, J W → J W.drew) := Lib.hid fun W hW => HJI.out _ ((HJO.out W hW).drew)
      have HJ0 : Hid (J w6) := Lib.hid (HJI.out _ (Below.refl _ _))
      have HCL : Hid (∀ W, J W → ∀ j, W.cell? ⟨bA, j, none⟩ = #[.int .i64 a.credit, su, en][j]?) := Lib.hid fun W hW j => obj_cell (obj_below HX6.out (HJO.out W hW)) j
      have HCK : Hid (∀ W, J W → ∀ j, W.cell? ⟨bK, j, none⟩ = #[.int .i64 x0, .int .i64 x1, .int .i64 x2][j]?) := Lib.hid fun W hW j => obj_cell (obj_below HK6.out (HJO.out W hW)) j
      have HFW : Hid (∀ W, J W → Below w.heap.size w W) := Lib.hid fun W hW => HW6.out.trans ((HJO.out W hW).mono HW6.out.size)
      have HFW1 : Hid (∀ W, J W → Below w1.heap.size w1 W) := Lib.hid fun W hW => HB6.out.trans ((HJO.out W hW).mono HB6.out.size)
      have HBQ : Hid (∀ W, J W → Calls Try.prog 58 #[.agg #[.int .i64 a.credit, su, en], .int .i64 x0] W fun e w' => e = .returned (.int .i64 bq) ∧ J w') := Lib.hid fun W hW =>
        (HBX.out W (HFW.out W hW)).mono fun e w' g => ⟨g.1, HJI.out _ ((HJO.out W hW).trans (g.2.mono (HJO.out W hW).size))⟩
      have egB := enters_of Try.func58 (by kernel_rfl) rfl
      clear hJ hw6 hbK c0 c1 c2
      have HBT : Hid (∀ W, J W → (∀ j, W.cell? ⟨bA, j, none⟩ = #[.int .i64 a.credit, su, en][j]?) ∧ (∀ j, W.cell? ⟨bK, j, none⟩ = #[.int .i64 x0, .int .i64 x1, .int .i64 x2][j]?)) := Lib.hid fun W hW => ⟨HCL.out W hW, HCK.out W hW⟩
      have hnew := HJ0.out
      obtain ⟨g1, g2⟩ := HBT.out _ hnew
      clear HCL HCK
      go_region_held3 (fun W => (∀ j, W.cell? ⟨bA, j, none⟩ = #[.int .i64 a.credit, su, en][j]?) ∧ (∀ j, W.cell? ⟨bK, j, none⟩ = #[.int .i64 x0, .int .i64 x1, .int .i64 x2][j]?))
        (first | with_reducible assumption | exact HBT.out _ (by with_reducible assumption) | exact HBT.out _ (HJD.out _ (by with_reducible assumption)))
        (first
          | (go_at_call 58; (with_reducible refine Calls.mono (HBQ.out _ (by first | with_reducible assumption | exact HJD.out _ (by with_reducible assumption))) ?_); rintro e w7 ⟨rfl, hinv7⟩))
      have HBW := Lib.hid (HFW1.out _ hinv7)
      go_wp2
      go_roundw
      case rel => exact ⟨t + mx, k + 1, (by first | rfl | exact h5), (by first | rfl | go_num), by omega, HTM, by omega, by omega, HBW⟩
      case measure => simp [RowKit.intOf]; omega
    · obtain rfl : n = k := by omega
      obtain rfl : t = r := by rw [HT.out, HRR.out, HN.out, List.take_length]
      go_wp2
      go_ret
      exact ⟨rfl, HB1.out.trans (HB.out.mono HB1.out.size)⟩

end Go.Proofs.Ytoelidndnajedaa
