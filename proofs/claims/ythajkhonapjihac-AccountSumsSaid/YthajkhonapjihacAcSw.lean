/- At every instant the sub-accounts add up to what came from outside less what went there: for every tape. -/
import Derived.Test.YthajkhonapjihacAcSr
import Derived.Test.YthajkhonapjihacAcDy
set_option linter.unusedSimpArgs false
set_option linter.unusedVariables false
namespace Go.Proofs.Ythajkhonapjihac
open Go.RowKit Go.Lib Go.Proofs

set_option maxRecDepth 100000 in
set_option maxHeartbeats 8000000 in
theorem acsums_any (v : Value) (n : Nat) (w : World) (hi : IntsAt w v n w.heap.size) (hn : n ≤ 9223372036854775807) :
    Calls Try.prog 3 #[v] w fun e w' => e = .returned (.bool true) ∧ Below w.heap.size w w' := by
  have HNEW := Lib.hid (sNew_any v n w hi hn)
  have HSN := Lib.hid sane23_true
  clear hi hn
  go_enter Try.func3, Try.ntmps3
  go_wp2_with fail
  refine (HNEW.out).mono ?_
  rintro e w1 ⟨rfl, t1, b1⟩
  obtain ⟨tb, htb⟩ : ∃ tb, tb = w.heap.size := ⟨_, rfl⟩
  rw [← htb] at t1 ⊢
  have HW1 := Lib.hid b1
  have HTB := Lib.hid htb
  have HS1 := Lib.hid (si_start t1)
  have HI1 := Lib.hid (HS1.out.alloc (.cells #[.int .i64 1, .int .i64 2, .int .i64 3, .int .i64 7] 3))
  have HL1 := Lib.hid (heap_alloc_new w1 (.cells #[.int .i64 1, .int .i64 2, .int .i64 3, .int .i64 7] 3))
  have HTL : Hid (tb < w1.heap.size) := Lib.hid t1.lt
  have HN3 := Lib.hid (fun W (h : SI w1 tb W) => n_in h 3 (by omega) (by omega))
  clear t1 b1 HNEW htb
  go_wp2_with fail
  with_reducible refine Calls.mono (pick_in _ [0, 100] _ _ rfl HI1.out (by simp) (by simp) _ rfl _ (by simp)) ?_
  rintro e w2 ⟨c, rfl, hc, hi2, hg2⟩
  obtain ⟨b, hb0, hb1, hb2⟩ := open_hund hc
  have HSI2 := Lib.hid hi2
  have HLB2 : Hid (w2.heap[w1.heap.size]? = some (.cells #[.int .i64 1, .int .i64 2, .int .i64 3, .int .i64 7] 3 (0, 0))) := Lib.hid (obj_turn (obj_below HL1.out (below_alloc _ _)) hg2 (by have := HTL.out; omega))
  have HOP := Lib.hid (raOpen_any (.slice (some ⟨w1.heap.size, 0, none⟩) 4 4) [1, 2, 3, 7] c w2 (nums_box HLB2.out [1, 2, 3, 7] rfl 4 4 rfl (by omega)) (by simp))
  rw [hb0] at HOP
  have HMD := Lib.hid hb1
  have HCR0 := Lib.hid hb2
  clear hc hi2 hg2 hb0 hb1 hb2 HI1 HL1 HLB2 HS1
  go_wp2_with fail
  refine (HOP.out).mono ?_
  rintro e w3 ⟨su, en, rfl, hs3, he3, hb3⟩
  obtain ⟨aS, cS, rfl, -, -⟩ := hs3.shape
  obtain ⟨aE, cE, rfl, -, -⟩ := he3.shape
  have HA3 : Hid (AX w1 tb w3.heap.size b (.slice aS b.subs.length cS) (.slice aE b.ents.length cE) (w3.alloc (.cells #[.int .i64 b.credit, .slice aS b.subs.length cS, .slice aE b.ents.length cE] 28))) := Lib.hid ⟨(HSI2.out.below hb3).alloc _, heap_alloc_new _ _, hs3.below (below_alloc _ _), he3.below (below_alloc _ _), by have := (HSI2.out.below hb3).old.size; have := HTL.out; omega, (HSI2.out.below hb3).old.size⟩
  clear hs3 he3 hb3 HOP HSI2
  go_upto_region 3 with fail
  generalize w3.heap.size = bA at *
  generalize w3.alloc (.cells #[.int .i64 b.credit, .slice aS b.subs.length cS, .slice aE b.ents.length cE] 28) = w4 at *
  go_wp2
  go_loopw [6, 7] (fun dv kv wr => ∃ (a : Acc) (su en : Value) (d : Int) (k : Nat), dv = .int .i64 d ∧ kv = .int .i64 k ∧ k ≤ 12 ∧ 0 ≤ d ∧ d ≤ 2 * (k : Int) ∧ Hid (Made a [1, 2, 3, 7] k 500 d) ∧ Hid (a.credit = 0 ∨ a.credit = 100) ∧ Hid (AX w1 tb bA a su en wr)) (fun _ kv _ => 12 - (RowKit.intOf kv).toNat)
  case atStart => exact ⟨b, _, _, 0, 0, rfl, rfl, by omega, by omega, by omega, HMD, HCR0, HA3⟩
  case round =>
    clear HMD HCR0 HA3
    obtain ⟨a, su, en, d0, k, rfl, rfl, hk12, hd0, hd1, HMD, HCR0, HA⟩ := hrel
    obtain ⟨aS, cS, rfl, -, -⟩ := HA.out.subs.shape
    obtain ⟨aE, cE, rfl, -, -⟩ := HA.out.ents.shape
    have hz := checkM_zero.1 HMD.out.right
    have hnum := right_number HMD.out.right
    obtain ⟨s, hsl⟩ : ∃ s, s = a.subs.length := ⟨_, rfl⟩
    obtain ⟨m, hml⟩ : ∃ m, m = a.ents.length := ⟨_, rfl⟩
    obtain ⟨cr, hcrl⟩ : ∃ cr, cr = a.credit := ⟨_, rfl⟩
    have HSL := Lib.hid hsl
    have HML := Lib.hid hml
    have HCR := Lib.hid hcrl
    have HNB : Hid ((lastE a.ents).number = m) := Lib.hid (by rw [hnum, hml])
    have hm12 : m ≤ k := by rw [hml]; exact HMD.out.len
    have hs20 : s ≤ 20 := by rw [hsl]; exact hz.1
    rw [← hsl, ← hml] at HA
    clear hz hnum hsl hml hcrl
    by_cases hk : k < 12
    · have hki : (k : Int) < 12 := by omega
      go_wp2_with fail
      with_reducible refine Calls.mono (HN3.out _ HA.out.si) ?_
      rintro e w5 ⟨r, rfl, r0, r1, hi5, hg5⟩
      have HA5 := Lib.hid (HA.out.turn hi5 hg5)
      clear hi5 hg5 HA
      have hd2 : 0 ≤ d0 + r ∧ d0 + r ≤ 2 * ((k : Int) + 1) := by omega
      go_upto_region 8 with fail
      generalize hdr : d0 + r = d at *
      have HDD : Hid (d0 ≤ d) := Lib.hid (by omega)
      clear hd0 hd1 r0 r1 hdr
      obtain ⟨I, hI⟩ : ∃ I, I = SI w5 tb := ⟨_, rfl⟩
      have HS5 : Hid (SrcAt w5 tb) := Lib.hid HA5.out.si.src
      have HIS : Hid (∀ W, I W → SI w5 tb W) := Lib.hid fun W hW => by rw [hI] at hW; exact hW
      have HSI : Hid (∀ W, SI w5 tb W → I W) := Lib.hid fun W hW => by rw [hI]; exact hW
      have HI5 : Hid (I w5) := Lib.hid (HSI.out _ (si_start HS5.out))
      have HDR : Hid (∀ W, I W → I W.drew) := Lib.hid fun W hW => HSI.out _ (HIS.out W hW).drew
      have HAL : Hid (∀ W o, I W → I (W.alloc o)) := Lib.hid fun W o hW => HSI.out _ ((HIS.out W hW).alloc o)
      have HTS : Hid (∀ W, I W → w5.heap.size ≤ W.heap.size) := Lib.hid fun W hW => (HIS.out W hW).old.size
      have HBT : Hid (tb < w5.heap.size) := Lib.hid HS5.out.lt
      have HSW : Hid (∀ W, I W → SubsAt W (.slice aS s cS) a.subs) := Lib.hid fun W hW => HA5.out.subs.turn HS5.out (HIS.out W hW).old
      have HEW : Hid (∀ W, I W → EntsAt W (.slice aE m cE) a.ents) := Lib.hid fun W hW => HA5.out.ents.turn HS5.out (HIS.out W hW).old
      have HBW : Hid (∀ W, I W → W.heap[bA]? = some (.cells #[.int .i64 cr, .slice aS s cS, .slice aE m cE] 28 (0, 0))) := Lib.hid fun W hW => by rw [HCR.out]; exact obj_turn HA5.out.box (HIS.out W hW).old (by have := HA5.out.far; omega)
      have HCL : Hid (∀ W, I W → ∀ i, W.cell? ⟨bA, i, none⟩ = #[.int .i64 cr, .slice aS s cS, .slice aE m cE][i]?) := Lib.hid fun W hW i => obj_cell (HBW.out W hW) i
      have HP6 : Hid (∀ (V : World) (bx : Nat) (v0 v1 v2 v3 v4 v5 : Value), I V → w5.heap.size ≤ bx → I (put6 V bx v0 v1 v2 v3 v4 v5)) := Lib.hid fun V bx v0 v1 v2 v3 v4 v5 hV hx => HSI.out _ ((HIS.out V hV).grown (put6_grown V bx v0 v1 v2 v3 v4 v5) (fun q e => by injection e with e; omega))
      have HAXW : Hid (∀ W, I W → AX w1 tb bA a (.slice aS s cS) (.slice aE m cE) W) := Lib.hid fun W hW =>
        ⟨⟨(HIS.out W hW).src, grown_step HA5.out.si.old (HIS.out W hW).old, HA5.out.si.lt⟩, by rw [← HCR.out]; exact HBW.out W hW, HSW.out W hW, HEW.out W hW, HA5.out.far, HA5.out.out⟩
      have HPK : Hid (∀ (L : List Int) (cs : Array Value) (b : Nat) (W : World), I W → cs.toList = cellsI L → L.length = 4 → W.heap[b]? = some (.cells cs 3 (0, 0)) → tb < b → Calls Try.prog 9 #[.pointer (some ⟨tb, 0, none⟩), .slice (some ⟨b, 0, none⟩) 4 4] W fun e w' => ∃ v, e = .returned v ∧ ((∃ x ∈ L, v = .int .i64 x) ∧ I w' ∧ Keep tb W w')) := Lib.hid fun L cs b W hW hcs hL hbx hlt => by
        have h := sPick_any tb b 4 L W (HIS.out W hW).src hlt (obj_lt hbx) (by omega) (by omega) (fun i hi => by
          rw [obj_cell hbx, ← Array.getElem?_toList, hcs, cellsI_get L i hi])
        rw [hL] at h
        exact h.mono fun e w' ⟨x, h1, h2, h3, h4⟩ => ⟨_, h1, ⟨x, h2, rfl⟩, HSI.out _ ((HIS.out W hW).turn h3 h4), keep_turn h4⟩
      have HNX : Hid (∀ x y z W, I W → Calls Try.prog 11 #[.agg #[.int .i64 cr, .slice aS s cS, .slice aE m cE], .int .i64 d, .int .i64 x, .int .i64 y, .int .i64 z, .int .i64 0] W fun e w' => ∃ v, e = .returned v ∧ (v = .agg #[.int .i64 ((m : Int) + 1), .int .i64 d, .int .i64 x, .int .i64 y, .int .i64 z, .int .i64 0] ∧ I w' ∧ Keep tb W w')) := Lib.hid fun x y z W hW => by
        have h := acNext_any a.ents cr (.slice aS s cS) (.slice aE m cE) d x y z 0 W (HEW.out W hW) (by rw [← HML.out]; omega) (by rw [HNB.out]; omega) (by rw [HNB.out]; omega)
        refine h.mono fun e w' h => ⟨_, h.1, ?_, HSI.out _ ((HIS.out W hW).below h.2), keep_below h.2⟩
        unfold nextM
        rw [HNB.out]
        rfl
      have egP := enters_of Try.func9 (by kernel_rfl) rfl
      have egN := enters_of Try.func11 (by kernel_rfl) rfl
      clear hI
      go_cut [8] (fun p wx => ∃ (bE : Nat) (x y z : Int), p = .pointer (some ⟨bE, 0, none⟩) ∧ (1 ≤ z ∧ z ≤ 500) ∧ Hid (I wx) ∧ Hid (wx.heap[bE]? = some (.cells #[.int .i64 ((m : Int) + 1), .int .i64 d, .int .i64 x, .int .i64 y, .int .i64 z, .int .i64 0] 35 (0, 0))))
      case first =>
        refine wp_region_props [34, 35, 36, 37, 38, 39, 40, 41, 42, 43, 44, 45, 8] slot8 reads8 (R8 tb w5.heap.size (.agg #[.int .i64 cr, .slice aS s cS, .slice aE m cE]) m d) I (by kernel_rfl) (by kernel_rfl) (by kernel_rfl) (HDR.out _ HI5.out) (fun j f q v W hq h => R8.upd hq h) ?_ ?_
        case refine_1 =>
          intro i hi f W hIW hdep
          have hi' : i < 14 := hi
          generalize ha1 : putsL _ [34, 35, 36, 37, 38, 39, 40, 41, 42, 43, 44, 45, 8] f = a1
          match i, hi', hdep with
          | 0, _, hdep =>
            have E4 : a1.tmps[4]?.getD undef = .pointer (some ⟨bA, 0, none⟩) := by rw [← ha1]; exact (putsL_out2 _ _ _ _ (by decide)).trans rfl
            have hv := HCL.out W hIW
            have v0 := hv 0
            have v1 := hv 1
            have v2 := hv 2
            simp at v0 v1 v2
            exact wpOp_val rfl rfl (v := .agg #[.int .i64 cr, .slice aS s cS, .slice aE m cE]) (w' := W) (by simp [execOp, E4, go_sem, v0, v1, v2]) ⟨hIW, fun _ h => h, Or.inl ⟨_, by decide, rfl, updF_same _ _ _⟩⟩
          | 1, _, hdep =>
            have E6 : a1.tmps[6]?.getD undef = .int .i64 d := by rw [← ha1]; exact (putsL_out2 _ _ _ _ (by decide)).trans rfl
            exact wpOp_val rfl rfl (v := .int .i64 d) (w' := W) (by simp [execOp, E6, go_sem]) ⟨hIW, fun _ h => h, Or.inl ⟨_, by decide, rfl, updF_same _ _ _⟩⟩
          | 2, _, hdep =>
            have E3 : a1.tmps[3]?.getD undef = .pointer (some ⟨tb, 0, none⟩) := by rw [← ha1]; exact (putsL_out2 _ _ _ _ (by decide)).trans rfl
            exact wpOp_val rfl rfl (v := .pointer (some ⟨tb, 0, none⟩)) (w' := W) (by simp [execOp, E3, go_sem]) ⟨hIW, fun _ h => h, Or.inl ⟨_, by decide, rfl, updF_same _ _ _⟩⟩
          | 3, _, hdep =>
            exact wpOp_val rfl rfl (v := .slice (some ⟨W.heap.size, 0, none⟩) 4 4) (w' := W.alloc (.cells #[.int .i64 0, .int .i64 1, .int .i64 2, .int .i64 3] 3)) (by simp [execOp, go_sem]) ⟨HAL.out _ _ hIW, fun j h => R8.keep HBT.out (keep_below (below_alloc _ _)) h, Or.inl ⟨_, by decide, rfl, ⟨_, updF_same _ _ _, by have := HTS.out _ hIW; have := HBT.out; omega, heap_alloc_new _ _⟩⟩⟩
          | 4, _, hdep =>
            have h1 := hdep 2 (by kernel_rfl)
            obtain ⟨b, h2, h3, h4⟩ := hdep 3 (by kernel_rfl)
            have E36 : a1.tmps[36]?.getD undef = f 36 := by rw [← ha1]; exact putsL_in2 _ _ _ _ (by decide) (show 36 < 108 from by decide)
            have E37 : a1.tmps[37]?.getD undef = f 37 := by rw [← ha1]; exact putsL_in2 _ _ _ _ (by decide) (show 37 < 108 from by decide)
            have e1 : f 36 = .pointer (some ⟨tb, 0, none⟩) := h1
            rw [e1] at E36
            rw [h2] at E37
            refine wpOp_call rfl rfl (n := 9) (vs := #[.pointer (some ⟨tb, 0, none⟩), .slice (some ⟨b, 0, none⟩) 4 4]) (by have := egP #[.pointer (some ⟨tb, 0, none⟩), .slice (some ⟨b, 0, none⟩) 4 4] W; simp [execOp, E36, E37, resolve, invoke, go_sem] <;> exact this) (HPK.out [0, 1, 2, 3] _ b W hIW rfl rfl h4 h3) ?_
            rintro v w' ⟨⟨x, hx, rfl⟩, hI', hk'⟩
            exact ⟨hI', fun j h => R8.keep HBT.out hk' h, Or.inl ⟨_, by decide, rfl, ⟨x, updF_same _ _ _⟩⟩⟩
          | 5, _, hdep =>
            have E3 : a1.tmps[3]?.getD undef = .pointer (some ⟨tb, 0, none⟩) := by rw [← ha1]; exact (putsL_out2 _ _ _ _ (by decide)).trans rfl
            exact wpOp_val rfl rfl (v := .pointer (some ⟨tb, 0, none⟩)) (w' := W) (by simp [execOp, E3, go_sem]) ⟨hIW, fun _ h => h, Or.inl ⟨_, by decide, rfl, updF_same _ _ _⟩⟩
          | 6, _, hdep =>
            exact wpOp_val rfl rfl (v := .slice (some ⟨W.heap.size, 0, none⟩) 4 4) (w' := W.alloc (.cells #[.int .i64 0, .int .i64 1, .int .i64 2, .int .i64 7] 3)) (by simp [execOp, go_sem]) ⟨HAL.out _ _ hIW, fun j h => R8.keep HBT.out (keep_below (below_alloc _ _)) h, Or.inl ⟨_, by decide, rfl, ⟨_, updF_same _ _ _, by have := HTS.out _ hIW; have := HBT.out; omega, heap_alloc_new _ _⟩⟩⟩
          | 7, _, hdep =>
            have h1 := hdep 5 (by kernel_rfl)
            obtain ⟨b, h2, h3, h4⟩ := hdep 6 (by kernel_rfl)
            have E39 : a1.tmps[39]?.getD undef = f 39 := by rw [← ha1]; exact putsL_in2 _ _ _ _ (by decide) (show 39 < 108 from by decide)
            have E40 : a1.tmps[40]?.getD undef = f 40 := by rw [← ha1]; exact putsL_in2 _ _ _ _ (by decide) (show 40 < 108 from by decide)
            have e1 : f 39 = .pointer (some ⟨tb, 0, none⟩) := h1
            rw [e1] at E39
            rw [h2] at E40
            refine wpOp_call rfl rfl (n := 9) (vs := #[.pointer (some ⟨tb, 0, none⟩), .slice (some ⟨b, 0, none⟩) 4 4]) (by have := egP #[.pointer (some ⟨tb, 0, none⟩), .slice (some ⟨b, 0, none⟩) 4 4] W; simp [execOp, E39, E40, resolve, invoke, go_sem] <;> exact this) (HPK.out [0, 1, 2, 7] _ b W hIW rfl rfl h4 h3) ?_
            rintro v w' ⟨⟨x, hx, rfl⟩, hI', hk'⟩
            exact ⟨hI', fun j h => R8.keep HBT.out hk' h, Or.inl ⟨_, by decide, rfl, ⟨x, updF_same _ _ _⟩⟩⟩
          | 8, _, hdep =>
            have E3 : a1.tmps[3]?.getD undef = .pointer (some ⟨tb, 0, none⟩) := by rw [← ha1]; exact (putsL_out2 _ _ _ _ (by decide)).trans rfl
            exact wpOp_val rfl rfl (v := .pointer (some ⟨tb, 0, none⟩)) (w' := W) (by simp [execOp, E3, go_sem]) ⟨hIW, fun _ h => h, Or.inl ⟨_, by decide, rfl, updF_same _ _ _⟩⟩
          | 9, _, hdep =>
            exact wpOp_val rfl rfl (v := .slice (some ⟨W.heap.size, 0, none⟩) 4 4) (w' := W.alloc (.cells #[.int .i64 1, .int .i64 30, .int .i64 90, .int .i64 500] 3)) (by simp [execOp, go_sem]) ⟨HAL.out _ _ hIW, fun j h => R8.keep HBT.out (keep_below (below_alloc _ _)) h, Or.inl ⟨_, by decide, rfl, ⟨_, updF_same _ _ _, by have := HTS.out _ hIW; have := HBT.out; omega, heap_alloc_new _ _⟩⟩⟩
          | 10, _, hdep =>
            have h1 := hdep 8 (by kernel_rfl)
            obtain ⟨b, h2, h3, h4⟩ := hdep 9 (by kernel_rfl)
            have E42 : a1.tmps[42]?.getD undef = f 42 := by rw [← ha1]; exact putsL_in2 _ _ _ _ (by decide) (show 42 < 108 from by decide)
            have E43 : a1.tmps[43]?.getD undef = f 43 := by rw [← ha1]; exact putsL_in2 _ _ _ _ (by decide) (show 43 < 108 from by decide)
            have e1 : f 42 = .pointer (some ⟨tb, 0, none⟩) := h1
            rw [e1] at E42
            rw [h2] at E43
            refine wpOp_call rfl rfl (n := 9) (vs := #[.pointer (some ⟨tb, 0, none⟩), .slice (some ⟨b, 0, none⟩) 4 4]) (by have := egP #[.pointer (some ⟨tb, 0, none⟩), .slice (some ⟨b, 0, none⟩) 4 4] W; simp [execOp, E42, E43, resolve, invoke, go_sem] <;> exact this) (HPK.out [1, 30, 90, 500] _ b W hIW rfl rfl h4 h3) ?_
            rintro v w' ⟨⟨x, hx, rfl⟩, hI', hk'⟩
            exact ⟨hI', fun j h => R8.keep HBT.out hk' h, Or.inl ⟨_, by decide, rfl, ⟨x, updF_same _ _ _, by simp at hx; omega, by simp at hx; omega⟩⟩⟩
          | 11, _, hdep =>
            have h0 := hdep 0 (by kernel_rfl)
            have h1 := hdep 1 (by kernel_rfl)
            obtain ⟨x, hx⟩ := hdep 4 (by kernel_rfl)
            obtain ⟨y, hy⟩ := hdep 7 (by kernel_rfl)
            obtain ⟨z, hz, hz1, hz2⟩ := hdep 10 (by kernel_rfl)
            have E34 : a1.tmps[34]?.getD undef = f 34 := by rw [← ha1]; exact putsL_in2 _ _ _ _ (by decide) (show 34 < 108 from by decide)
            have E35 : a1.tmps[35]?.getD undef = f 35 := by rw [← ha1]; exact putsL_in2 _ _ _ _ (by decide) (show 35 < 108 from by decide)
            have E38 : a1.tmps[38]?.getD undef = f 38 := by rw [← ha1]; exact putsL_in2 _ _ _ _ (by decide) (show 38 < 108 from by decide)
            have E41 : a1.tmps[41]?.getD undef = f 41 := by rw [← ha1]; exact putsL_in2 _ _ _ _ (by decide) (show 41 < 108 from by decide)
            have E44 : a1.tmps[44]?.getD undef = f 44 := by rw [← ha1]; exact putsL_in2 _ _ _ _ (by decide) (show 44 < 108 from by decide)
            have e0 : f 34 = .agg #[.int .i64 cr, .slice aS s cS, .slice aE m cE] := h0
            have e1 : f 35 = .int .i64 d := h1
            rw [e0] at E34
            rw [e1] at E35
            rw [hx] at E38
            rw [hy] at E41
            rw [hz] at E44
            refine wpOp_call rfl rfl (n := 11) (vs := #[.agg #[.int .i64 cr, .slice aS s cS, .slice aE m cE], .int .i64 d, .int .i64 x, .int .i64 y, .int .i64 z, .int .i64 0]) (by have := egN #[.agg #[.int .i64 cr, .slice aS s cS, .slice aE m cE], .int .i64 d, .int .i64 x, .int .i64 y, .int .i64 z, .int .i64 0] W; simp [execOp, E34, E35, E38, E41, E44, resolve, invoke, go_sem] <;> exact this) (HNX.out x y z W hIW) ?_
            rintro v w' ⟨rfl, hI', hk'⟩
            exact ⟨hI', fun j h => R8.keep HBT.out hk' h, Or.inl ⟨_, by decide, rfl, ⟨x, y, z, updF_same _ _ _, hz1, hz2⟩⟩⟩
          | 12, _, hdep =>
            exact wpOp_val rfl rfl (v := .pointer (some ⟨W.heap.size, 0, none⟩)) (w' := W.alloc (.cells #[.int .i64 0, .int .i64 0, .int .i64 0, .int .i64 0, .int .i64 0, .int .i64 0] 35)) (by simp [execOp, go_sem]) ⟨HAL.out _ _ hIW, fun j h => R8.keep HBT.out (keep_below (below_alloc _ _)) h, Or.inl ⟨_, by decide, rfl, ⟨_, updF_same _ _ _, HTS.out _ hIW, 0, 0, 0, 0, 0, 0, heap_alloc_new _ _⟩⟩⟩
          | 13, _, hdep =>
            obtain ⟨b, h1, h2, c0, c1, c2, c3, c4, c5, h3⟩ := hdep 12 (by kernel_rfl)
            obtain ⟨x, y, z, h4, h5, h6⟩ := hdep 11 (by kernel_rfl)
            have E8 : a1.tmps[8]?.getD undef = f 8 := by rw [← ha1]; exact putsL_in2 _ _ _ _ (by decide) (show 8 < 108 from by decide)
            have E45 : a1.tmps[45]?.getD undef = f 45 := by rw [← ha1]; exact putsL_in2 _ _ _ _ (by decide) (show 45 < 108 from by decide)
            rw [h1] at E8
            rw [h4] at E45
            have p0 := obj_cell h3 0
            have p1 := obj_cell h3 1
            have p2 := obj_cell h3 2
            have p3 := obj_cell h3 3
            have p4 := obj_cell h3 4
            have p5 := obj_cell h3 5
            have g0 := obj_free h3 0
            have g1 := obj_free h3 1
            have g2 := obj_free h3 2
            have g3 := obj_free h3 3
            have g4 := obj_free h3 4
            have g5 := obj_free h3 5
            simp at p0 p1 p2 p3 p4 p5
            refine wpOp_skip rfl rfl (w' := put6 W b (.int .i64 ((m : Int) + 1)) (.int .i64 d) (.int .i64 x) (.int .i64 y) (.int .i64 z) (.int .i64 0)) (by unfold put6; simp [execOp, E8, E45, go_sem, p0, p1, p2, p3, p4, p5, g0, g1, g2, g3, g4, g5]) ⟨HP6.out _ _ _ _ _ _ _ _ hIW h2, fun j h => ?_, Or.inr ⟨rfl, ⟨b, x, y, z, h1, h2, ⟨h5, h6⟩, put6_at h3 rfl _ _ _ _ _ _⟩⟩⟩
            by_cases hj : j = 13
            · subst hj
              exact ⟨b, x, y, z, h1, h2, ⟨h5, h6⟩, put6_at h3 rfl _ _ _ _ _ _⟩
            · exact R8.put h1 h3 _ _ _ _ _ _ j hj h
        case refine_2 =>
          intro f W hIW hR
          obtain ⟨bE, x, y, z, h1, h2, h3, h4⟩ := hR 13 (show 13 < 14 from by decide)
          simp only [putsL, List.foldl_cons, List.foldl_nil, Act.put, List.setIfInBounds_toArray, List.set_cons_zero, List.set_cons_succ]
          go_wp2
          go_meet
          exact ⟨bE, x, y, z, h1, h3, Lib.hid hIW, Lib.hid h4⟩
      case rest =>
        obtain ⟨bE, x, y, z, rfl, hz, HIW, HE⟩ := hcut
        have HA6 := Lib.hid (HAXW.out _ HIW.out)
        have HFIN : Hid (∀ W, SI w1 tb W → Below w.heap.size w W) := Lib.hid fun W hW => HW1.out.grown hW.old HW1.out.size (fun q e => by injection e with e; rw [← e, ← HTB.out]; exact Nat.le_refl _)
        have HC : Hid (Calls Try.prog 12 #[.agg #[.int .i64 cr, .slice aS s cS, .slice aE m cE], .agg #[.int .i64 ((m : Int) + 1), .int .i64 d, .int .i64 x, .int .i64 y, .int .i64 z, .int .i64 0]] wc fun e w' => ∃ (c z' : Int) (aU aV : Option Addr) (nU cU nV cV : Nat), e = .returned (.tuple #[.agg #[.int .i64 z', .slice aU nU cU, .slice aV nV cV], .int .i64 c]) ∧ Below wc.heap.size wc w' ∧ Posted a ⟨(m : Int) + 1, d, x, y, z, 0⟩ c z' (.slice aU nU cU) (.slice aV nV cV) w') := Lib.hid (by
          have h := acPost_any a ⟨(m : Int) + 1, d, x, y, z, 0⟩ (.slice aS s cS) (.slice aE m cE) wc HA6.out.subs HA6.out.ents (by rw [← HSL.out]; omega) (by rw [← HML.out]; omega)
          rw [← HCR.out] at h
          exact h.mono fun e w' g => posted_of g)
        have hbx := HBW.out _ HIW.out
        have u0 := obj_cell hbx 0
        have u1 := obj_cell hbx 1
        have u2 := obj_cell hbx 2
        have hex := HE.out
        have e0 := obj_cell hex 0
        have e1 := obj_cell hex 1
        have e2 := obj_cell hex 2
        have e3 := obj_cell hex 3
        have e4 := obj_cell hex 4
        have e5 := obj_cell hex 5
        simp at u0 u1 u2 e0 e1 e2 e3 e4 e5
        clear hbx hex HPK HNX HP6 HCL HBW HEW HSW HTS HAL HDR HSI HIS HI5 egP egN HAXW HIW HA5 HS5 HBT
        go_wp2_with fail
        refine (HC.out).mono ?_
        rintro e w7 ⟨c', z', aU, aV, nU, cU, nV, cV, rfl, hb7, hpd⟩
        have HA8 := Lib.hid ((HA6.out.below hb7).below (below_alloc w7 (.cells #[.int .i64 z', .slice aU nU cU, .slice aV nV cV] 28)))
        have HE8 := Lib.hid (obj_below (obj_below HE.out hb7) (below_alloc w7 (.cells #[.int .i64 z', .slice aU nU cU, .slice aV nV cV] 28)))
        have HB8 := Lib.hid (heap_alloc_new w7 (.cells #[.int .i64 z', .slice aU nU cU, .slice aV nV cV] 28))
        have hpd8 := hpd.below (below_alloc w7 (.cells #[.int .i64 z', .slice aU nU cU, .slice aV nV cV] 28))
        have hbB : bA < w7.heap.size := obj_lt (HA6.out.below hb7).box
        clear hb7 hpd HC HE HA6 u0 u1 u2 e0 e1 e2 e3 e4 e5
        go_upto_region 10 with fail
        generalize w7.heap.size = bB at *
        generalize w7.alloc (.cells #[.int .i64 z', .slice aU nU cU, .slice aV nV cV] 28) = w8 at *
        rcases hpd8 with ⟨rfl, b, hp, rfl, hs8, he8⟩ | hne
        case inr =>
          have hc1 : (c' == 0) = false := by rw [beq_eq_false_iff_ne]; exact hne
          have hc2 : (c' != 0) = true := by rw [bne, hc1]; rfl
          have HMB : Hid (Made a [1, 2, 3, 7] (k + 1) 500 d) := Lib.hid (HMD.out.more (by omega) HDD.out)
          clear hne
          go_wp2
          go_roundw
          case rel => exact ⟨a, _, _, d, k + 1, rfl, by first | rfl | go_num, by omega, hd2.1, by omega, HMB, HCR0, HA8⟩
          case measure => simp [RowKit.intOf]; omega
        have HMB : Hid (Made b [1, 2, 3, 7] (k + 1) 500 d) := Lib.hid ((HMD.out.more (Nat.le_refl _) HDD.out).post hp (by exact hz.2) (Int.le_refl _))
        obtain ⟨-, hbr, hbe, hbc, -, hba⟩ := postM_right hp
        have HCB : Hid (b.credit = 0 ∨ b.credit = 100) := Lib.hid (by rw [hbc]; exact HCR0.out)
        have HBR := Lib.hid hbr
        have hsb := right_sum hbr
        obtain ⟨⟨i1, i2⟩, i3, i4⟩ := flowIO_bound hbr 0 36000
        obtain ⟨p1, hp1⟩ : ∃ q, q = flowI 0 36000 b.ents := ⟨_, rfl⟩
        obtain ⟨p2, hp2⟩ : ∃ q, q = flowO 0 36000 b.ents := ⟨_, rfl⟩
        rw [← hp1, ← hp2] at hsb
        rw [← hp1] at i1 i2
        rw [← hp2] at i3 i4
        have HSB := Lib.hid hsb
        have HNET : Hid (x ≠ 0 → y ≠ 0 → sumM a.subs = p1 - p2) := Lib.hid fun h1 h2 => by
          rw [← hsb]
          exact (addM_net hba (noZero_right HMD.out.right) h1 h2).symm
        have hlb : b.subs.length = s := (len_of_ids (addM_ids hba)).trans HSL.out.symm
        have hlm : b.ents.length = m + 1 := by rw [hbe]; simp; exact HML.out.symm
        obtain ⟨-, cU', hU, hcU, -⟩ : ∃ (_ : Unit) (c : Nat), Value.slice aU nU cU = .slice aU b.subs.length c ∧ b.subs.length ≤ c ∧ True := by
          obtain ⟨ao, cap, h1, h2, -⟩ := hs8.shape
          injection h1 with h3 h4 h5
          exact ⟨(), cU, by rw [h4], by rw [h5]; exact h2, trivial⟩
        injection hU with _ hU1 hU2
        obtain ⟨-, cV', hV, hcV, -⟩ : ∃ (_ : Unit) (c : Nat), Value.slice aV nV cV = .slice aV b.ents.length c ∧ b.ents.length ≤ c ∧ True := by
          obtain ⟨ao, cap, h1, h2, -⟩ := he8.shape
          injection h1 with h3 h4 h5
          exact ⟨(), cV, by rw [h4], by rw [h5]; exact h2, trivial⟩
        injection hV with _ hV1 hV2
        subst hU2 hV2
        rw [hlb] at hU1 hcU
        rw [hlm] at hV1 hcV
        subst hU1 hV1
        have HLB := Lib.hid hlb
        have HLM := Lib.hid hlm
        obtain ⟨cb, hcb⟩ : ∃ cb, cb = b.credit := ⟨_, rfl⟩
        have HCB2 := Lib.hid hcb
        rw [← hcb] at HB8 ⊢
        have HS8 := Lib.hid hs8
        have HN8 := Lib.hid he8
        have HBOX : Hid (∀ W, Below w8.heap.size w8 W → (∀ i, W.cell? ⟨bB, i, none⟩ = #[.int .i64 cb, .slice aU nU cU, .slice aV (m + 1) cV][i]?) ∧ (∀ i, W.cell? ⟨bE, i, none⟩ = #[.int .i64 ((m : Int) + 1), .int .i64 d, .int .i64 x, .int .i64 y, .int .i64 z, .int .i64 0][i]?) ∧ (∀ i, W.cell? ⟨bA, i, none⟩ = #[.int .i64 cr, .slice aS nU cS, .slice aE m cE][i]?)) := Lib.hid fun W hW =>
          ⟨fun i => obj_cell (obj_below HB8.out hW) i, fun i => obj_cell (obj_below HE8.out hW) i, fun i => by rw [HCR.out]; exact obj_cell (obj_below HA8.out.box hW) i⟩
        have HFL : Hid (Calls Try.prog 13 #[.agg #[.int .i64 cb, .slice aU nU cU, .slice aV (m + 1) cV], .int .i64 0, .int .i64 36000] w8 fun e w' => e = .returned (.tuple #[.int .i64 p1, .int .i64 p2]) ∧ Below w8.heap.size w8 w') := Lib.hid (by
          have h := acFlow_any b (.slice aU nU cU) (.slice aV (m + 1) cV) 0 36000 w8 hs8 he8 (by rw [hlb]; omega) (by rw [hlm]; omega)
          rw [flowM_right hbr, ← hcb] at h
          rw [hp1, hp2]
          exact h)
        have HTOB : Hid (∀ W, Below w8.heap.size w8 W → Calls Try.prog 14 #[.agg #[.int .i64 cb, .slice aU nU cU, .slice aV (m + 1) cV]] W fun e w' => e = .returned (.int .i64 (p1 - p2)) ∧ Below W.heap.size W w') := Lib.hid fun W hW => by
          have h := acTotal_any b (.slice aU nU cU) (.slice aV (m + 1) cV) W (HS8.out.below hW) (HN8.out.below hW) (by rw [HLB.out]; omega) (by rw [HLM.out]; omega)
          rw [show totalM b = p1 - p2 from (if_pos HBR.out).trans HSB.out, ← HCB2.out] at h
          exact h
        have HTOA : Hid (x ≠ 0 → y ≠ 0 → ∀ W, Below w8.heap.size w8 W → Calls Try.prog 14 #[.agg #[.int .i64 cr, .slice aS nU cS, .slice aE m cE]] W fun e w' => e = .returned (.int .i64 (p1 - p2)) ∧ Below W.heap.size W w') := Lib.hid fun h1 h2 W hW => by
          have h := acTotal_any a (.slice aS nU cS) (.slice aE m cE) W (HA8.out.subs.below hW) (HA8.out.ents.below hW) (by rw [← HSL.out]; omega) (by rw [← HML.out]; omega)
          rw [show totalM a = p1 - p2 from (if_pos HMD.out.right).trans (HNET.out h1 h2), ← HCR.out] at h
          exact h
        have HBAL : Hid (∀ q ∈ b.subs, -1000000000000 ≤ q.bal ∧ q.bal ≤ 1000000000000000) := Lib.hid (by
          have hpl := (checkM_zero.1 hbr).2.2.1
          unfold plainM at hpl
          simp only [Bool.and_eq_true] at hpl
          exact bals_wide hpl.1 (right_bals hbr))
        obtain ⟨au, cu, hue, -, hcs⟩ := hs8.shape
        injection hue with e1 e2 e3
        have HCS : Hid (0 < nU → ∃ b' o, aU = some ⟨b', o, none⟩ ∧ b' < w8.heap.size ∧ ∀ i, i < nU → w8.cell? ⟨b', o + i * 2, none⟩ = some (.int .i64 (subAt b.subs i).id) ∧ w8.cell? ⟨b', o + i * 2 + 1, none⟩ = some (.int .i64 (subAt b.subs i).bal)) := Lib.hid (by
          rw [e1]
          intro h0
          rw [hlb] at hcs
          exact hcs h0)
        have hw1 : IntKind.i64.wrap (p1 - p2) = p1 - p2 := IntWalk.i64_in _ (by omega)
        have hn0 : (p1 - p2 == p1 - p2) = true := by rw [beq_iff_eq]
        have hn1 : (p1 - p2 != p1 - p2) = false := by rw [bne, hn0]; rfl
        clear hp hbr hbe hbc hba hsb hp1 hp2 hs8 he8 hcs e1 e2 e3 hlb hlm hcb HNET hcU hcV hz
        have hbx := (HBOX.out _ (Below.refl _ _)).1
        have u0 := hbx 0
        have u1 := hbx 1
        have u2 := hbx 2
        simp at u0 u1 u2
        clear hbx
        go_wp2_with fail
        refine (HFL.out).mono ?_
        rintro e w9 ⟨rfl, hb9⟩
        have HB9 := Lib.hid hb9
        have hbx := (HBOX.out _ hb9).1
        have v1 := hbx 1
        simp at v1
        clear hbx hb9 u0 u1 u2 HFL
        go_wp2
        go_loopw [13, 62] (fun sv iv wr => ∃ (j : Nat) (t : Int), sv = .int .i64 t ∧ iv = .int .i64 j ∧ j ≤ nU ∧ Hid (t = sumM (b.subs.take j)) ∧ (-1000000000000 * (j : Int) ≤ t ∧ t ≤ 1000000000000000 * (j : Int)) ∧ Hid (Below w8.heap.size w8 wr)) (fun _ iv _ => nU - (RowKit.intOf iv).toNat)
        case atStart => exact ⟨0, 0, rfl, rfl, by omega, Lib.hid rfl, by simp, HB9⟩
        case round =>
          obtain ⟨j, t, rfl, rfl, hjn, HT, ht, HBJ⟩ := hrel
          by_cases hlt : j < nU
          · have hjl : j < b.subs.length := by rw [HLB.out]; exact hlt
            obtain ⟨b', o, rfl, hb', hcc⟩ := HCS.out (by omega)
            have c0 : wr.cell? ⟨b', o + j * 2, none⟩ = some (.int .i64 (subAt b.subs j).id) := (HBJ.out.cell (p := ⟨b', o + j * 2, none⟩) hb').trans (hcc j hlt).1
            have c1 : wr.cell? ⟨b', o + j * 2 + 1, none⟩ = some (.int .i64 (subAt b.subs j).bal) := (HBJ.out.cell (p := ⟨b', o + j * 2 + 1, none⟩) hb').trans (hcc j hlt).2
            have hbb := HBAL.out _ (List.getElem_mem hjl)
            rw [← subAt_get hjl] at hbb
            have HI : Hid (t + (subAt b.subs j).bal = sumM (b.subs.take (j + 1))) := Lib.hid (by rw [sumM_take j hjl, ← HT.out])
            generalize (subAt b.subs j).id = xx at *
            generalize (subAt b.subs j).bal = yy at *
            have HB2 := Lib.hid (HBJ.out.alloc HBJ.out.size (.cells #[.int .i64 xx, .int .i64 yy] 41))
            have hj0 : (0 : Int) ≤ (j : Int) := by omega
            have hj1 : (j : Int) < (nU : Int) := by omega
            clear hcc
            go_wp2
            go_roundw
            case rel => exact ⟨j + 1, t + yy, rfl, by first | rfl | go_num, by omega, HI, by omega, HB2⟩
            case measure => simp [RowKit.intOf]; omega
          · have hjn' : j = nU := by omega
            obtain rfl : t = p1 - p2 := by rw [HT.out, hjn', ← HLB.out, List.take_length]; exact HSB.out
            clear ht hlt hjn
            go_upto_region 18 with fail
            obtain ⟨J, hJ⟩ : ∃ J, J = fun W : World => Below w8.heap.size w8 W := ⟨_, rfl⟩
            have HJO : Hid (∀ W, J W → Below w8.heap.size w8 W) := Lib.hid fun W hW => by rw [hJ] at hW; exact hW
            have HJI : Hid (∀ W, Below w8.heap.size w8 W → J W) := Lib.hid fun W hW => by rw [hJ]; exact hW
            have HJD : Hid (∀ W, J W → J W.drew) := Lib.hid fun W hW => HJI.out _ ((HJO.out W hW).drew)
            have HJ0 := Lib.hid (HJI.out _ HBJ.out)
            have HC1 : Hid (∀ W, J W → Calls Try.prog 14 #[.agg #[.int .i64 cb, .slice aU nU cU, .slice aV (m + 1) cV]] W fun e w' => e = .returned (.int .i64 (p1 - p2)) ∧ J w') := Lib.hid fun W hW =>
              (HTOB.out W (HJO.out W hW)).mono fun e w' g => ⟨g.1, HJI.out _ ((HJO.out W hW).trans (g.2.mono (HJO.out W hW).size))⟩
            have HC2 : Hid (x ≠ 0 → y ≠ 0 → ∀ W, J W → Calls Try.prog 14 #[.agg #[.int .i64 cr, .slice aS nU cS, .slice aE m cE]] W fun e w' => e = .returned (.int .i64 (p1 - p2)) ∧ J w') := Lib.hid fun h1 h2 W hW =>
              (HTOA.out h1 h2 W (HJO.out W hW)).mono fun e w' g => ⟨g.1, HJI.out _ ((HJO.out W hW).trans (g.2.mono (HJO.out W hW).size))⟩
            have HS : Hid (∀ W, J W → (∀ i, W.cell? ⟨bB, i, none⟩ = #[.int .i64 cb, .slice aU nU cU, .slice aV (m + 1) cV][i]?) ∧ (∀ i, W.cell? ⟨bE, i, none⟩ = #[.int .i64 ((m : Int) + 1), .int .i64 d, .int .i64 x, .int .i64 y, .int .i64 z, .int .i64 0][i]?) ∧ (∀ i, W.cell? ⟨bA, i, none⟩ = #[.int .i64 cr, .slice aS nU cS, .slice aE m cE][i]?)) := Lib.hid fun W hW => HBOX.out W (HJO.out W hW)
            have egT := enters_of Try.func14 (by kernel_rfl) rfl
            clear hJ
            go_cut [100] (fun c wx => c = .bool false ∧ Hid (J wx))
            case first =>
              obtain ⟨g1, g2, g3⟩ := HS.out _ HJ0.out
              have hnew := HJ0.out
              by_cases hx : x = 0
              · have hx1 : (x == 0) = true := by rw [beq_iff_eq]; exact hx
                have hx2 : (x != 0) = false := by rw [bne, hx1]; rfl
                clear hx g1 g2 g3 hnew
                refine wp_region_props [71, 72, 73, 74, 75, 76, 77, 78, 79, 80, 81, 82, 83, 84, 85, 86, 87, 88, 89, 90, 91, 92, 93, 94, 95, 96, 97, 98, 99, 100] (slotT 71) (readsT 71) (RT 71 [.agg #[.int .i64 cb, .slice aU nU cU, .slice aV (m + 1) cV], .int .i64 (p1 - p2), .int .i64 p1, .int .i64 p2, .int .i64 (p1 - p2), .bool false, .bool false, .int .i64 (p1 - p2), .int .i64 p1, .int .i64 p2, .int .i64 (p1 - p2), .bool false, .bool false, .bool false, .pointer (some ⟨bE, 2, none⟩), .int .i64 x, .bool false, .bool false, undef, undef, undef, .bool false, .bool false, undef, undef, undef, undef, undef, .bool false, .bool false]) J (by kernel_rfl) (by kernel_rfl) (by kernel_rfl) (HJD.out _ HJ0.out) (fun j f q v W hq h => RT.upd hq h) ?_ ?_
                case refine_1 =>
                  intro i hi f W hIW hdep
                  have hi' : i < 30 := hi
                  generalize ha1 : putsL _ [71, 72, 73, 74, 75, 76, 77, 78, 79, 80, 81, 82, 83, 84, 85, 86, 87, 88, 89, 90, 91, 92, 93, 94, 95, 96, 97, 98, 99, 100] f = a1
                  match i, hi', hdep with
                  | 0, _, hdep =>
                    have E9 : a1.tmps[9]?.getD undef = .pointer (some ⟨bB, 0, none⟩) := by rw [← ha1]; exact (putsL_out2 _ _ _ _ (by decide)).trans rfl
                    obtain ⟨k1, -, -⟩ := HS.out W hIW
                    have v0 := k1 0
                    have v1 := k1 1
                    have v2 := k1 2
                    simp at v0 v1 v2
                    exact wpOp_val rfl rfl (v := .agg #[.int .i64 cb, .slice aU nU cU, .slice aV (m + 1) cV]) (w' := W) (by simp [execOp, go_sem, E9, v0, v1, v2]) ⟨hIW, fun _ h => h, Or.inl ⟨_, by decide, rfl, updF_same _ _ _⟩⟩
                  | 1, _, hdep =>
                    have E71 : a1.tmps[71]?.getD undef = .agg #[.int .i64 cb, .slice aU nU cU, .slice aV (m + 1) cV] := by rw [← ha1]; exact (putsL_in2 _ _ _ _ (by decide) (show 71 < 108 from by decide)).trans (hdep 0 (by kernel_rfl))
                    refine wpOp_call rfl rfl (n := 14) (vs := #[.agg #[.int .i64 cb, .slice aU nU cU, .slice aV (m + 1) cV]]) (by have := egT #[.agg #[.int .i64 cb, .slice aU nU cU, .slice aV (m + 1) cV]] W; simp [execOp, E71, resolve, invoke, go_sem] <;> exact this) ((HC1.out W hIW).mono fun e w' h => (⟨_, h.1, rfl, h.2⟩ : ∃ v, e = .returned v ∧ (v = .int .i64 (p1 - p2) ∧ J w'))) ?_
                    rintro v w' ⟨rfl, hI'⟩
                    exact ⟨hI', fun _ h => h, Or.inl ⟨_, by decide, rfl, updF_same _ _ _⟩⟩
                  | 2, _, hdep =>
                    have E11 : a1.tmps[11]?.getD undef = .int .i64 p1 := by rw [← ha1]; exact (putsL_out2 _ _ _ _ (by decide)).trans rfl
                    exact wpOp_val rfl rfl (v := .int .i64 p1) (w' := W) (by simp [execOp, go_sem, E11]) ⟨hIW, fun _ h => h, Or.inl ⟨_, by decide, rfl, updF_same _ _ _⟩⟩
                  | 3, _, hdep =>
                    have E12 : a1.tmps[12]?.getD undef = .int .i64 p2 := by rw [← ha1]; exact (putsL_out2 _ _ _ _ (by decide)).trans rfl
                    exact wpOp_val rfl rfl (v := .int .i64 p2) (w' := W) (by simp [execOp, go_sem, E12]) ⟨hIW, fun _ h => h, Or.inl ⟨_, by decide, rfl, updF_same _ _ _⟩⟩
                  | 4, _, hdep =>
                    have E73 : a1.tmps[73]?.getD undef = .int .i64 p1 := by rw [← ha1]; exact (putsL_in2 _ _ _ _ (by decide) (show 73 < 108 from by decide)).trans (hdep 2 (by kernel_rfl))
                    have E74 : a1.tmps[74]?.getD undef = .int .i64 p2 := by rw [← ha1]; exact (putsL_in2 _ _ _ _ (by decide) (show 74 < 108 from by decide)).trans (hdep 3 (by kernel_rfl))
                    exact wpOp_val rfl rfl (v := .int .i64 (p1 - p2)) (w' := W) (by simp [execOp, go_sem, E73, E74, hw1]) ⟨hIW, fun _ h => h, Or.inl ⟨_, by decide, rfl, updF_same _ _ _⟩⟩
                  | 5, _, hdep =>
                    have E72 : a1.tmps[72]?.getD undef = .int .i64 (p1 - p2) := by rw [← ha1]; exact (putsL_in2 _ _ _ _ (by decide) (show 72 < 108 from by decide)).trans (hdep 1 (by kernel_rfl))
                    have E75 : a1.tmps[75]?.getD undef = .int .i64 (p1 - p2) := by rw [← ha1]; exact (putsL_in2 _ _ _ _ (by decide) (show 75 < 108 from by decide)).trans (hdep 4 (by kernel_rfl))
                    exact wpOp_val rfl rfl (v := .bool false) (w' := W) (by simp [execOp, go_sem, E72, E75, hn0, hn1]) ⟨hIW, fun _ h => h, Or.inl ⟨_, by decide, rfl, updF_same _ _ _⟩⟩
                  | 6, _, hdep =>
                    have E76 : a1.tmps[76]?.getD undef = .bool false := by rw [← ha1]; exact (putsL_in2 _ _ _ _ (by decide) (show 76 < 108 from by decide)).trans (hdep 5 (by kernel_rfl))
                    exact wpOp_val rfl rfl (v := .bool false) (w' := W) (by simp [execOp, go_sem, E76]) ⟨hIW, fun _ h => h, Or.inl ⟨_, by decide, rfl, updF_same _ _ _⟩⟩
                  | 7, _, hdep =>
                    have G77 : a1.tmps[77]? = some (.bool false) := by rw [← ha1]; exact (putsL_some _ _ _ _ (by decide) (show 77 < 108 from by decide)).trans (congrArg some (hdep 6 (by kernel_rfl)))
                    have E13 : a1.tmps[13]?.getD undef = .int .i64 (p1 - p2) := by rw [← ha1]; exact (putsL_out2 _ _ _ _ (by decide)).trans rfl
                    exact wpOp_valG rfl rfl (yielded_of rfl G77) (v := .int .i64 (p1 - p2)) (w' := W) (by simp [execOp, go_sem, E13]) ⟨hIW, fun _ h => h, Or.inl ⟨_, by decide, rfl, updF_same _ _ _⟩⟩
                  | 8, _, hdep =>
                    have G77 : a1.tmps[77]? = some (.bool false) := by rw [← ha1]; exact (putsL_some _ _ _ _ (by decide) (show 77 < 108 from by decide)).trans (congrArg some (hdep 6 (by kernel_rfl)))
                    have E11 : a1.tmps[11]?.getD undef = .int .i64 p1 := by rw [← ha1]; exact (putsL_out2 _ _ _ _ (by decide)).trans rfl
                    exact wpOp_valG rfl rfl (yielded_of rfl G77) (v := .int .i64 p1) (w' := W) (by simp [execOp, go_sem, E11]) ⟨hIW, fun _ h => h, Or.inl ⟨_, by decide, rfl, updF_same _ _ _⟩⟩
                  | 9, _, hdep =>
                    have G77 : a1.tmps[77]? = some (.bool false) := by rw [← ha1]; exact (putsL_some _ _ _ _ (by decide) (show 77 < 108 from by decide)).trans (congrArg some (hdep 6 (by kernel_rfl)))
                    have E12 : a1.tmps[12]?.getD undef = .int .i64 p2 := by rw [← ha1]; exact (putsL_out2 _ _ _ _ (by decide)).trans rfl
                    exact wpOp_valG rfl rfl (yielded_of rfl G77) (v := .int .i64 p2) (w' := W) (by simp [execOp, go_sem, E12]) ⟨hIW, fun _ h => h, Or.inl ⟨_, by decide, rfl, updF_same _ _ _⟩⟩
                  | 10, _, hdep =>
                    have G77 : a1.tmps[77]? = some (.bool false) := by rw [← ha1]; exact (putsL_some _ _ _ _ (by decide) (show 77 < 108 from by decide)).trans (congrArg some (hdep 6 (by kernel_rfl)))
                    have E79 : a1.tmps[79]?.getD undef = .int .i64 p1 := by rw [← ha1]; exact (putsL_in2 _ _ _ _ (by decide) (show 79 < 108 from by decide)).trans (hdep 8 (by kernel_rfl))
                    have E80 : a1.tmps[80]?.getD undef = .int .i64 p2 := by rw [← ha1]; exact (putsL_in2 _ _ _ _ (by decide) (show 80 < 108 from by decide)).trans (hdep 9 (by kernel_rfl))
                    exact wpOp_valG rfl rfl (yielded_of rfl G77) (v := .int .i64 (p1 - p2)) (w' := W) (by simp [execOp, go_sem, E79, E80, hw1]) ⟨hIW, fun _ h => h, Or.inl ⟨_, by decide, rfl, updF_same _ _ _⟩⟩
                  | 11, _, hdep =>
                    have G77 : a1.tmps[77]? = some (.bool false) := by rw [← ha1]; exact (putsL_some _ _ _ _ (by decide) (show 77 < 108 from by decide)).trans (congrArg some (hdep 6 (by kernel_rfl)))
                    have E78 : a1.tmps[78]?.getD undef = .int .i64 (p1 - p2) := by rw [← ha1]; exact (putsL_in2 _ _ _ _ (by decide) (show 78 < 108 from by decide)).trans (hdep 7 (by kernel_rfl))
                    have E81 : a1.tmps[81]?.getD undef = .int .i64 (p1 - p2) := by rw [← ha1]; exact (putsL_in2 _ _ _ _ (by decide) (show 81 < 108 from by decide)).trans (hdep 10 (by kernel_rfl))
                    exact wpOp_valG rfl rfl (yielded_of rfl G77) (v := .bool false) (w' := W) (by simp [execOp, go_sem, E78, E81, hn0, hn1]) ⟨hIW, fun _ h => h, Or.inl ⟨_, by decide, rfl, updF_same _ _ _⟩⟩
                  | 12, _, hdep =>
                    have E77 : a1.tmps[77]?.getD undef = .bool false := by rw [← ha1]; exact (putsL_in2 _ _ _ _ (by decide) (show 77 < 108 from by decide)).trans (hdep 6 (by kernel_rfl))
                    have E82 : a1.tmps[82]?.getD undef = .bool false := by rw [← ha1]; exact (putsL_in2 _ _ _ _ (by decide) (show 82 < 108 from by decide)).trans (hdep 11 (by kernel_rfl))
                    exact wpOp_val rfl rfl (v := .bool false) (w' := W) (by simp [execOp, go_sem, E77, E82]) ⟨hIW, fun _ h => h, Or.inl ⟨_, by decide, rfl, updF_same _ _ _⟩⟩
                  | 13, _, hdep =>
                    have E83 : a1.tmps[83]?.getD undef = .bool false := by rw [← ha1]; exact (putsL_in2 _ _ _ _ (by decide) (show 83 < 108 from by decide)).trans (hdep 12 (by kernel_rfl))
                    exact wpOp_val rfl rfl (v := .bool false) (w' := W) (by simp [execOp, go_sem, E83]) ⟨hIW, fun _ h => h, Or.inl ⟨_, by decide, rfl, updF_same _ _ _⟩⟩
                  | 14, _, hdep =>
                    have G84 : a1.tmps[84]? = some (.bool false) := by rw [← ha1]; exact (putsL_some _ _ _ _ (by decide) (show 84 < 108 from by decide)).trans (congrArg some (hdep 13 (by kernel_rfl)))
                    have E8 : a1.tmps[8]?.getD undef = .pointer (some ⟨bE, 0, none⟩) := by rw [← ha1]; exact (putsL_out2 _ _ _ _ (by decide)).trans rfl
                    exact wpOp_valG rfl rfl (yielded_of rfl G84) (v := .pointer (some ⟨bE, 2, none⟩)) (w' := W) (by simp [execOp, go_sem, E8]) ⟨hIW, fun _ h => h, Or.inl ⟨_, by decide, rfl, updF_same _ _ _⟩⟩
                  | 15, _, hdep =>
                    have G84 : a1.tmps[84]? = some (.bool false) := by rw [← ha1]; exact (putsL_some _ _ _ _ (by decide) (show 84 < 108 from by decide)).trans (congrArg some (hdep 13 (by kernel_rfl)))
                    have E85 : a1.tmps[85]?.getD undef = .pointer (some ⟨bE, 2, none⟩) := by rw [← ha1]; exact (putsL_in2 _ _ _ _ (by decide) (show 85 < 108 from by decide)).trans (hdep 14 (by kernel_rfl))
                    obtain ⟨-, k1, -⟩ := HS.out W hIW
                    have v0 := k1 2
                    simp at v0
                    exact wpOp_valG rfl rfl (yielded_of rfl G84) (v := .int .i64 x) (w' := W) (by simp [execOp, go_sem, E85, v0]) ⟨hIW, fun _ h => h, Or.inl ⟨_, by decide, rfl, updF_same _ _ _⟩⟩
                  | 16, _, hdep =>
                    have G84 : a1.tmps[84]? = some (.bool false) := by rw [← ha1]; exact (putsL_some _ _ _ _ (by decide) (show 84 < 108 from by decide)).trans (congrArg some (hdep 13 (by kernel_rfl)))
                    have E86 : a1.tmps[86]?.getD undef = .int .i64 x := by rw [← ha1]; exact (putsL_in2 _ _ _ _ (by decide) (show 86 < 108 from by decide)).trans (hdep 15 (by kernel_rfl))
                    exact wpOp_valG rfl rfl (yielded_of rfl G84) (v := .bool false) (w' := W) (by simp [execOp, go_sem, E86, hx1, hx2]) ⟨hIW, fun _ h => h, Or.inl ⟨_, by decide, rfl, updF_same _ _ _⟩⟩
                  | 17, _, hdep =>
                    have G84 : a1.tmps[84]? = some (.bool false) := by rw [← ha1]; exact (putsL_some _ _ _ _ (by decide) (show 84 < 108 from by decide)).trans (congrArg some (hdep 13 (by kernel_rfl)))
                    have E87 : a1.tmps[87]?.getD undef = .bool false := by rw [← ha1]; exact (putsL_in2 _ _ _ _ (by decide) (show 87 < 108 from by decide)).trans (hdep 16 (by kernel_rfl))
                    exact wpOp_valG rfl rfl (yielded_of rfl G84) (v := .bool false) (w' := W) (by simp [execOp, go_sem, E87]) ⟨hIW, fun _ h => h, Or.inl ⟨_, by decide, rfl, updF_same _ _ _⟩⟩
                  | 18, _, hdep =>
                    have G88 : a1.tmps[88]? = some (.bool false) := by rw [← ha1]; exact (putsL_some _ _ _ _ (by decide) (show 88 < 108 from by decide)).trans (congrArg some (hdep 17 (by kernel_rfl)))
                    exact wpOp_off rfl rfl (yielded_of rfl G88) ⟨hIW, fun _ h => h, Or.inl ⟨_, by decide, rfl, updF_same _ _ _⟩⟩
                  | 19, _, hdep =>
                    have G88 : a1.tmps[88]? = some (.bool false) := by rw [← ha1]; exact (putsL_some _ _ _ _ (by decide) (show 88 < 108 from by decide)).trans (congrArg some (hdep 17 (by kernel_rfl)))
                    exact wpOp_off rfl rfl (yielded_of rfl G88) ⟨hIW, fun _ h => h, Or.inl ⟨_, by decide, rfl, updF_same _ _ _⟩⟩
                  | 20, _, hdep =>
                    have G88 : a1.tmps[88]? = some (.bool false) := by rw [← ha1]; exact (putsL_some _ _ _ _ (by decide) (show 88 < 108 from by decide)).trans (congrArg some (hdep 17 (by kernel_rfl)))
                    exact wpOp_off rfl rfl (yielded_of rfl G88) ⟨hIW, fun _ h => h, Or.inl ⟨_, by decide, rfl, updF_same _ _ _⟩⟩
                  | 21, _, hdep =>
                    have G84 : a1.tmps[84]? = some (.bool false) := by rw [← ha1]; exact (putsL_some _ _ _ _ (by decide) (show 84 < 108 from by decide)).trans (congrArg some (hdep 13 (by kernel_rfl)))
                    have E88 : a1.tmps[88]?.getD undef = .bool false := by rw [← ha1]; exact (putsL_in2 _ _ _ _ (by decide) (show 88 < 108 from by decide)).trans (hdep 17 (by kernel_rfl))
                    have E91 : a1.tmps[91]?.getD undef = undef := by rw [← ha1]; exact (putsL_in2 _ _ _ _ (by decide) (show 91 < 108 from by decide)).trans (hdep 20 (by kernel_rfl))
                    exact wpOp_valG rfl rfl (yielded_of rfl G84) (v := .bool false) (w' := W) (by simp [execOp, go_sem, E88, E91]) ⟨hIW, fun _ h => h, Or.inl ⟨_, by decide, rfl, updF_same _ _ _⟩⟩
                  | 22, _, hdep =>
                    have G84 : a1.tmps[84]? = some (.bool false) := by rw [← ha1]; exact (putsL_some _ _ _ _ (by decide) (show 84 < 108 from by decide)).trans (congrArg some (hdep 13 (by kernel_rfl)))
                    have E92 : a1.tmps[92]?.getD undef = .bool false := by rw [← ha1]; exact (putsL_in2 _ _ _ _ (by decide) (show 92 < 108 from by decide)).trans (hdep 21 (by kernel_rfl))
                    exact wpOp_valG rfl rfl (yielded_of rfl G84) (v := .bool false) (w' := W) (by simp [execOp, go_sem, E92]) ⟨hIW, fun _ h => h, Or.inl ⟨_, by decide, rfl, updF_same _ _ _⟩⟩
                  | 23, _, hdep =>
                    have G93 : a1.tmps[93]? = some (.bool false) := by rw [← ha1]; exact (putsL_some _ _ _ _ (by decide) (show 93 < 108 from by decide)).trans (congrArg some (hdep 22 (by kernel_rfl)))
                    exact wpOp_off rfl rfl (yielded_of rfl G93) ⟨hIW, fun _ h => h, Or.inl ⟨_, by decide, rfl, updF_same _ _ _⟩⟩
                  | 24, _, hdep =>
                    have G93 : a1.tmps[93]? = some (.bool false) := by rw [← ha1]; exact (putsL_some _ _ _ _ (by decide) (show 93 < 108 from by decide)).trans (congrArg some (hdep 22 (by kernel_rfl)))
                    exact wpOp_off rfl rfl (yielded_of rfl G93) ⟨hIW, fun _ h => h, Or.inl ⟨_, by decide, rfl, updF_same _ _ _⟩⟩
                  | 25, _, hdep =>
                    have G93 : a1.tmps[93]? = some (.bool false) := by rw [← ha1]; exact (putsL_some _ _ _ _ (by decide) (show 93 < 108 from by decide)).trans (congrArg some (hdep 22 (by kernel_rfl)))
                    exact wpOp_off rfl rfl (yielded_of rfl G93) ⟨hIW, fun _ h => h, Or.inl ⟨_, by decide, rfl, updF_same _ _ _⟩⟩
                  | 26, _, hdep =>
                    have G93 : a1.tmps[93]? = some (.bool false) := by rw [← ha1]; exact (putsL_some _ _ _ _ (by decide) (show 93 < 108 from by decide)).trans (congrArg some (hdep 22 (by kernel_rfl)))
                    exact wpOp_off rfl rfl (yielded_of rfl G93) ⟨hIW, fun _ h => h, Or.inl ⟨_, by decide, rfl, updF_same _ _ _⟩⟩
                  | 27, _, hdep =>
                    have G93 : a1.tmps[93]? = some (.bool false) := by rw [← ha1]; exact (putsL_some _ _ _ _ (by decide) (show 93 < 108 from by decide)).trans (congrArg some (hdep 22 (by kernel_rfl)))
                    exact wpOp_off rfl rfl (yielded_of rfl G93) ⟨hIW, fun _ h => h, Or.inl ⟨_, by decide, rfl, updF_same _ _ _⟩⟩
                  | 28, _, hdep =>
                    have G84 : a1.tmps[84]? = some (.bool false) := by rw [← ha1]; exact (putsL_some _ _ _ _ (by decide) (show 84 < 108 from by decide)).trans (congrArg some (hdep 13 (by kernel_rfl)))
                    have E93 : a1.tmps[93]?.getD undef = .bool false := by rw [← ha1]; exact (putsL_in2 _ _ _ _ (by decide) (show 93 < 108 from by decide)).trans (hdep 22 (by kernel_rfl))
                    have E98 : a1.tmps[98]?.getD undef = undef := by rw [← ha1]; exact (putsL_in2 _ _ _ _ (by decide) (show 98 < 108 from by decide)).trans (hdep 27 (by kernel_rfl))
                    exact wpOp_valG rfl rfl (yielded_of rfl G84) (v := .bool false) (w' := W) (by simp [execOp, go_sem, E93, E98]) ⟨hIW, fun _ h => h, Or.inl ⟨_, by decide, rfl, updF_same _ _ _⟩⟩
                  | 29, _, hdep =>
                    have E84 : a1.tmps[84]?.getD undef = .bool false := by rw [← ha1]; exact (putsL_in2 _ _ _ _ (by decide) (show 84 < 108 from by decide)).trans (hdep 13 (by kernel_rfl))
                    have E99 : a1.tmps[99]?.getD undef = .bool false := by rw [← ha1]; exact (putsL_in2 _ _ _ _ (by decide) (show 99 < 108 from by decide)).trans (hdep 28 (by kernel_rfl))
                    exact wpOp_val rfl rfl (v := .bool false) (w' := W) (by simp [execOp, go_sem, E84, E99]) ⟨hIW, fun _ h => h, Or.inl ⟨_, by decide, rfl, updF_same _ _ _⟩⟩
                  | i + 30, h, _ => exact absurd h (by omega)
                case refine_2 =>
                  intro f W hIW hR
                  have h29 : f 100 = .bool false := hR 29 (show 29 < 30 from by decide)
                  simp only [putsL, List.foldl_cons, List.foldl_nil, Act.put, List.setIfInBounds_toArray, List.set_cons_zero, List.set_cons_succ]
                  go_wp2
                  go_meet
                  exact ⟨h29, Lib.hid hIW⟩
              · have hx1 : (x == 0) = false := by rw [beq_eq_false_iff_ne]; exact hx
                have hx2 : (x != 0) = true := by rw [bne, hx1]; rfl
                by_cases hy : y = 0
                · have hy1 : (y == 0) = true := by rw [beq_iff_eq]; exact hy
                  have hy2 : (y != 0) = false := by rw [bne, hy1]; rfl
                  clear hx hy g1 g2 g3 hnew
                  refine wp_region_props [71, 72, 73, 74, 75, 76, 77, 78, 79, 80, 81, 82, 83, 84, 85, 86, 87, 88, 89, 90, 91, 92, 93, 94, 95, 96, 97, 98, 99, 100] (slotT 71) (readsT 71) (RT 71 [.agg #[.int .i64 cb, .slice aU nU cU, .slice aV (m + 1) cV], .int .i64 (p1 - p2), .int .i64 p1, .int .i64 p2, .int .i64 (p1 - p2), .bool false, .bool false, .int .i64 (p1 - p2), .int .i64 p1, .int .i64 p2, .int .i64 (p1 - p2), .bool false, .bool false, .bool false, .pointer (some ⟨bE, 2, none⟩), .int .i64 x, .bool true, .bool true, .pointer (some ⟨bE, 3, none⟩), .int .i64 y, .bool false, .bool false, .bool false, undef, undef, undef, undef, undef, .bool false, .bool false]) J (by kernel_rfl) (by kernel_rfl) (by kernel_rfl) (HJD.out _ HJ0.out) (fun j f q v W hq h => RT.upd hq h) ?_ ?_
                  case refine_1 =>
                    intro i hi f W hIW hdep
                    have hi' : i < 30 := hi
                    generalize ha1 : putsL _ [71, 72, 73, 74, 75, 76, 77, 78, 79, 80, 81, 82, 83, 84, 85, 86, 87, 88, 89, 90, 91, 92, 93, 94, 95, 96, 97, 98, 99, 100] f = a1
                    match i, hi', hdep with
                    | 0, _, hdep =>
                      have E9 : a1.tmps[9]?.getD undef = .pointer (some ⟨bB, 0, none⟩) := by rw [← ha1]; exact (putsL_out2 _ _ _ _ (by decide)).trans rfl
                      obtain ⟨k1, -, -⟩ := HS.out W hIW
                      have v0 := k1 0
                      have v1 := k1 1
                      have v2 := k1 2
                      simp at v0 v1 v2
                      exact wpOp_val rfl rfl (v := .agg #[.int .i64 cb, .slice aU nU cU, .slice aV (m + 1) cV]) (w' := W) (by simp [execOp, go_sem, E9, v0, v1, v2]) ⟨hIW, fun _ h => h, Or.inl ⟨_, by decide, rfl, updF_same _ _ _⟩⟩
                    | 1, _, hdep =>
                      have E71 : a1.tmps[71]?.getD undef = .agg #[.int .i64 cb, .slice aU nU cU, .slice aV (m + 1) cV] := by rw [← ha1]; exact (putsL_in2 _ _ _ _ (by decide) (show 71 < 108 from by decide)).trans (hdep 0 (by kernel_rfl))
                      refine wpOp_call rfl rfl (n := 14) (vs := #[.agg #[.int .i64 cb, .slice aU nU cU, .slice aV (m + 1) cV]]) (by have := egT #[.agg #[.int .i64 cb, .slice aU nU cU, .slice aV (m + 1) cV]] W; simp [execOp, E71, resolve, invoke, go_sem] <;> exact this) ((HC1.out W hIW).mono fun e w' h => (⟨_, h.1, rfl, h.2⟩ : ∃ v, e = .returned v ∧ (v = .int .i64 (p1 - p2) ∧ J w'))) ?_
                      rintro v w' ⟨rfl, hI'⟩
                      exact ⟨hI', fun _ h => h, Or.inl ⟨_, by decide, rfl, updF_same _ _ _⟩⟩
                    | 2, _, hdep =>
                      have E11 : a1.tmps[11]?.getD undef = .int .i64 p1 := by rw [← ha1]; exact (putsL_out2 _ _ _ _ (by decide)).trans rfl
                      exact wpOp_val rfl rfl (v := .int .i64 p1) (w' := W) (by simp [execOp, go_sem, E11]) ⟨hIW, fun _ h => h, Or.inl ⟨_, by decide, rfl, updF_same _ _ _⟩⟩
                    | 3, _, hdep =>
                      have E12 : a1.tmps[12]?.getD undef = .int .i64 p2 := by rw [← ha1]; exact (putsL_out2 _ _ _ _ (by decide)).trans rfl
                      exact wpOp_val rfl rfl (v := .int .i64 p2) (w' := W) (by simp [execOp, go_sem, E12]) ⟨hIW, fun _ h => h, Or.inl ⟨_, by decide, rfl, updF_same _ _ _⟩⟩
                    | 4, _, hdep =>
                      have E73 : a1.tmps[73]?.getD undef = .int .i64 p1 := by rw [← ha1]; exact (putsL_in2 _ _ _ _ (by decide) (show 73 < 108 from by decide)).trans (hdep 2 (by kernel_rfl))
                      have E74 : a1.tmps[74]?.getD undef = .int .i64 p2 := by rw [← ha1]; exact (putsL_in2 _ _ _ _ (by decide) (show 74 < 108 from by decide)).trans (hdep 3 (by kernel_rfl))
                      exact wpOp_val rfl rfl (v := .int .i64 (p1 - p2)) (w' := W) (by simp [execOp, go_sem, E73, E74, hw1]) ⟨hIW, fun _ h => h, Or.inl ⟨_, by decide, rfl, updF_same _ _ _⟩⟩
                    | 5, _, hdep =>
                      have E72 : a1.tmps[72]?.getD undef = .int .i64 (p1 - p2) := by rw [← ha1]; exact (putsL_in2 _ _ _ _ (by decide) (show 72 < 108 from by decide)).trans (hdep 1 (by kernel_rfl))
                      have E75 : a1.tmps[75]?.getD undef = .int .i64 (p1 - p2) := by rw [← ha1]; exact (putsL_in2 _ _ _ _ (by decide) (show 75 < 108 from by decide)).trans (hdep 4 (by kernel_rfl))
                      exact wpOp_val rfl rfl (v := .bool false) (w' := W) (by simp [execOp, go_sem, E72, E75, hn0, hn1]) ⟨hIW, fun _ h => h, Or.inl ⟨_, by decide, rfl, updF_same _ _ _⟩⟩
                    | 6, _, hdep =>
                      have E76 : a1.tmps[76]?.getD undef = .bool false := by rw [← ha1]; exact (putsL_in2 _ _ _ _ (by decide) (show 76 < 108 from by decide)).trans (hdep 5 (by kernel_rfl))
                      exact wpOp_val rfl rfl (v := .bool false) (w' := W) (by simp [execOp, go_sem, E76]) ⟨hIW, fun _ h => h, Or.inl ⟨_, by decide, rfl, updF_same _ _ _⟩⟩
                    | 7, _, hdep =>
                      have G77 : a1.tmps[77]? = some (.bool false) := by rw [← ha1]; exact (putsL_some _ _ _ _ (by decide) (show 77 < 108 from by decide)).trans (congrArg some (hdep 6 (by kernel_rfl)))
                      have E13 : a1.tmps[13]?.getD undef = .int .i64 (p1 - p2) := by rw [← ha1]; exact (putsL_out2 _ _ _ _ (by decide)).trans rfl
                      exact wpOp_valG rfl rfl (yielded_of rfl G77) (v := .int .i64 (p1 - p2)) (w' := W) (by simp [execOp, go_sem, E13]) ⟨hIW, fun _ h => h, Or.inl ⟨_, by decide, rfl, updF_same _ _ _⟩⟩
                    | 8, _, hdep =>
                      have G77 : a1.tmps[77]? = some (.bool false) := by rw [← ha1]; exact (putsL_some _ _ _ _ (by decide) (show 77 < 108 from by decide)).trans (congrArg some (hdep 6 (by kernel_rfl)))
                      have E11 : a1.tmps[11]?.getD undef = .int .i64 p1 := by rw [← ha1]; exact (putsL_out2 _ _ _ _ (by decide)).trans rfl
                      exact wpOp_valG rfl rfl (yielded_of rfl G77) (v := .int .i64 p1) (w' := W) (by simp [execOp, go_sem, E11]) ⟨hIW, fun _ h => h, Or.inl ⟨_, by decide, rfl, updF_same _ _ _⟩⟩
                    | 9, _, hdep =>
                      have G77 : a1.tmps[77]? = some (.bool false) := by rw [← ha1]; exact (putsL_some _ _ _ _ (by decide) (show 77 < 108 from by decide)).trans (congrArg some (hdep 6 (by kernel_rfl)))
                      have E12 : a1.tmps[12]?.getD undef = .int .i64 p2 := by rw [← ha1]; exact (putsL_out2 _ _ _ _ (by decide)).trans rfl
                      exact wpOp_valG rfl rfl (yielded_of rfl G77) (v := .int .i64 p2) (w' := W) (by simp [execOp, go_sem, E12]) ⟨hIW, fun _ h => h, Or.inl ⟨_, by decide, rfl, updF_same _ _ _⟩⟩
                    | 10, _, hdep =>
                      have G77 : a1.tmps[77]? = some (.bool false) := by rw [← ha1]; exact (putsL_some _ _ _ _ (by decide) (show 77 < 108 from by decide)).trans (congrArg some (hdep 6 (by kernel_rfl)))
                      have E79 : a1.tmps[79]?.getD undef = .int .i64 p1 := by rw [← ha1]; exact (putsL_in2 _ _ _ _ (by decide) (show 79 < 108 from by decide)).trans (hdep 8 (by kernel_rfl))
                      have E80 : a1.tmps[80]?.getD undef = .int .i64 p2 := by rw [← ha1]; exact (putsL_in2 _ _ _ _ (by decide) (show 80 < 108 from by decide)).trans (hdep 9 (by kernel_rfl))
                      exact wpOp_valG rfl rfl (yielded_of rfl G77) (v := .int .i64 (p1 - p2)) (w' := W) (by simp [execOp, go_sem, E79, E80, hw1]) ⟨hIW, fun _ h => h, Or.inl ⟨_, by decide, rfl, updF_same _ _ _⟩⟩
                    | 11, _, hdep =>
                      have G77 : a1.tmps[77]? = some (.bool false) := by rw [← ha1]; exact (putsL_some _ _ _ _ (by decide) (show 77 < 108 from by decide)).trans (congrArg some (hdep 6 (by kernel_rfl)))
                      have E78 : a1.tmps[78]?.getD undef = .int .i64 (p1 - p2) := by rw [← ha1]; exact (putsL_in2 _ _ _ _ (by decide) (show 78 < 108 from by decide)).trans (hdep 7 (by kernel_rfl))
                      have E81 : a1.tmps[81]?.getD undef = .int .i64 (p1 - p2) := by rw [← ha1]; exact (putsL_in2 _ _ _ _ (by decide) (show 81 < 108 from by decide)).trans (hdep 10 (by kernel_rfl))
                      exact wpOp_valG rfl rfl (yielded_of rfl G77) (v := .bool false) (w' := W) (by simp [execOp, go_sem, E78, E81, hn0, hn1]) ⟨hIW, fun _ h => h, Or.inl ⟨_, by decide, rfl, updF_same _ _ _⟩⟩
                    | 12, _, hdep =>
                      have E77 : a1.tmps[77]?.getD undef = .bool false := by rw [← ha1]; exact (putsL_in2 _ _ _ _ (by decide) (show 77 < 108 from by decide)).trans (hdep 6 (by kernel_rfl))
                      have E82 : a1.tmps[82]?.getD undef = .bool false := by rw [← ha1]; exact (putsL_in2 _ _ _ _ (by decide) (show 82 < 108 from by decide)).trans (hdep 11 (by kernel_rfl))
                      exact wpOp_val rfl rfl (v := .bool false) (w' := W) (by simp [execOp, go_sem, E77, E82]) ⟨hIW, fun _ h => h, Or.inl ⟨_, by decide, rfl, updF_same _ _ _⟩⟩
                    | 13, _, hdep =>
                      have E83 : a1.tmps[83]?.getD undef = .bool false := by rw [← ha1]; exact (putsL_in2 _ _ _ _ (by decide) (show 83 < 108 from by decide)).trans (hdep 12 (by kernel_rfl))
                      exact wpOp_val rfl rfl (v := .bool false) (w' := W) (by simp [execOp, go_sem, E83]) ⟨hIW, fun _ h => h, Or.inl ⟨_, by decide, rfl, updF_same _ _ _⟩⟩
                    | 14, _, hdep =>
                      have G84 : a1.tmps[84]? = some (.bool false) := by rw [← ha1]; exact (putsL_some _ _ _ _ (by decide) (show 84 < 108 from by decide)).trans (congrArg some (hdep 13 (by kernel_rfl)))
                      have E8 : a1.tmps[8]?.getD undef = .pointer (some ⟨bE, 0, none⟩) := by rw [← ha1]; exact (putsL_out2 _ _ _ _ (by decide)).trans rfl
                      exact wpOp_valG rfl rfl (yielded_of rfl G84) (v := .pointer (some ⟨bE, 2, none⟩)) (w' := W) (by simp [execOp, go_sem, E8]) ⟨hIW, fun _ h => h, Or.inl ⟨_, by decide, rfl, updF_same _ _ _⟩⟩
                    | 15, _, hdep =>
                      have G84 : a1.tmps[84]? = some (.bool false) := by rw [← ha1]; exact (putsL_some _ _ _ _ (by decide) (show 84 < 108 from by decide)).trans (congrArg some (hdep 13 (by kernel_rfl)))
                      have E85 : a1.tmps[85]?.getD undef = .pointer (some ⟨bE, 2, none⟩) := by rw [← ha1]; exact (putsL_in2 _ _ _ _ (by decide) (show 85 < 108 from by decide)).trans (hdep 14 (by kernel_rfl))
                      obtain ⟨-, k1, -⟩ := HS.out W hIW
                      have v0 := k1 2
                      simp at v0
                      exact wpOp_valG rfl rfl (yielded_of rfl G84) (v := .int .i64 x) (w' := W) (by simp [execOp, go_sem, E85, v0]) ⟨hIW, fun _ h => h, Or.inl ⟨_, by decide, rfl, updF_same _ _ _⟩⟩
                    | 16, _, hdep =>
                      have G84 : a1.tmps[84]? = some (.bool false) := by rw [← ha1]; exact (putsL_some _ _ _ _ (by decide) (show 84 < 108 from by decide)).trans (congrArg some (hdep 13 (by kernel_rfl)))
                      have E86 : a1.tmps[86]?.getD undef = .int .i64 x := by rw [← ha1]; exact (putsL_in2 _ _ _ _ (by decide) (show 86 < 108 from by decide)).trans (hdep 15 (by kernel_rfl))
                      exact wpOp_valG rfl rfl (yielded_of rfl G84) (v := .bool true) (w' := W) (by simp [execOp, go_sem, E86, hx1, hx2]) ⟨hIW, fun _ h => h, Or.inl ⟨_, by decide, rfl, updF_same _ _ _⟩⟩
                    | 17, _, hdep =>
                      have G84 : a1.tmps[84]? = some (.bool false) := by rw [← ha1]; exact (putsL_some _ _ _ _ (by decide) (show 84 < 108 from by decide)).trans (congrArg some (hdep 13 (by kernel_rfl)))
                      have E87 : a1.tmps[87]?.getD undef = .bool true := by rw [← ha1]; exact (putsL_in2 _ _ _ _ (by decide) (show 87 < 108 from by decide)).trans (hdep 16 (by kernel_rfl))
                      exact wpOp_valG rfl rfl (yielded_of rfl G84) (v := .bool true) (w' := W) (by simp [execOp, go_sem, E87]) ⟨hIW, fun _ h => h, Or.inl ⟨_, by decide, rfl, updF_same _ _ _⟩⟩
                    | 18, _, hdep =>
                      have G88 : a1.tmps[88]? = some (.bool true) := by rw [← ha1]; exact (putsL_some _ _ _ _ (by decide) (show 88 < 108 from by decide)).trans (congrArg some (hdep 17 (by kernel_rfl)))
                      have E8 : a1.tmps[8]?.getD undef = .pointer (some ⟨bE, 0, none⟩) := by rw [← ha1]; exact (putsL_out2 _ _ _ _ (by decide)).trans rfl
                      exact wpOp_valG rfl rfl (yielded_of rfl G88) (v := .pointer (some ⟨bE, 3, none⟩)) (w' := W) (by simp [execOp, go_sem, E8]) ⟨hIW, fun _ h => h, Or.inl ⟨_, by decide, rfl, updF_same _ _ _⟩⟩
                    | 19, _, hdep =>
                      have G88 : a1.tmps[88]? = some (.bool true) := by rw [← ha1]; exact (putsL_some _ _ _ _ (by decide) (show 88 < 108 from by decide)).trans (congrArg some (hdep 17 (by kernel_rfl)))
                      have E89 : a1.tmps[89]?.getD undef = .pointer (some ⟨bE, 3, none⟩) := by rw [← ha1]; exact (putsL_in2 _ _ _ _ (by decide) (show 89 < 108 from by decide)).trans (hdep 18 (by kernel_rfl))
                      obtain ⟨-, k1, -⟩ := HS.out W hIW
                      have v0 := k1 3
                      simp at v0
                      exact wpOp_valG rfl rfl (yielded_of rfl G88) (v := .int .i64 y) (w' := W) (by simp [execOp, go_sem, E89, v0]) ⟨hIW, fun _ h => h, Or.inl ⟨_, by decide, rfl, updF_same _ _ _⟩⟩
                    | 20, _, hdep =>
                      have G88 : a1.tmps[88]? = some (.bool true) := by rw [← ha1]; exact (putsL_some _ _ _ _ (by decide) (show 88 < 108 from by decide)).trans (congrArg some (hdep 17 (by kernel_rfl)))
                      have E90 : a1.tmps[90]?.getD undef = .int .i64 y := by rw [← ha1]; exact (putsL_in2 _ _ _ _ (by decide) (show 90 < 108 from by decide)).trans (hdep 19 (by kernel_rfl))
                      exact wpOp_valG rfl rfl (yielded_of rfl G88) (v := .bool false) (w' := W) (by simp [execOp, go_sem, E90, hy1, hy2]) ⟨hIW, fun _ h => h, Or.inl ⟨_, by decide, rfl, updF_same _ _ _⟩⟩
                    | 21, _, hdep =>
                      have G84 : a1.tmps[84]? = some (.bool false) := by rw [← ha1]; exact (putsL_some _ _ _ _ (by decide) (show 84 < 108 from by decide)).trans (congrArg some (hdep 13 (by kernel_rfl)))
                      have E88 : a1.tmps[88]?.getD undef = .bool true := by rw [← ha1]; exact (putsL_in2 _ _ _ _ (by decide) (show 88 < 108 from by decide)).trans (hdep 17 (by kernel_rfl))
                      have E91 : a1.tmps[91]?.getD undef = .bool false := by rw [← ha1]; exact (putsL_in2 _ _ _ _ (by decide) (show 91 < 108 from by decide)).trans (hdep 20 (by kernel_rfl))
                      exact wpOp_valG rfl rfl (yielded_of rfl G84) (v := .bool false) (w' := W) (by simp [execOp, go_sem, E88, E91]) ⟨hIW, fun _ h => h, Or.inl ⟨_, by decide, rfl, updF_same _ _ _⟩⟩
                    | 22, _, hdep =>
                      have G84 : a1.tmps[84]? = some (.bool false) := by rw [← ha1]; exact (putsL_some _ _ _ _ (by decide) (show 84 < 108 from by decide)).trans (congrArg some (hdep 13 (by kernel_rfl)))
                      have E92 : a1.tmps[92]?.getD undef = .bool false := by rw [← ha1]; exact (putsL_in2 _ _ _ _ (by decide) (show 92 < 108 from by decide)).trans (hdep 21 (by kernel_rfl))
                      exact wpOp_valG rfl rfl (yielded_of rfl G84) (v := .bool false) (w' := W) (by simp [execOp, go_sem, E92]) ⟨hIW, fun _ h => h, Or.inl ⟨_, by decide, rfl, updF_same _ _ _⟩⟩
                    | 23, _, hdep =>
                      have G93 : a1.tmps[93]? = some (.bool false) := by rw [← ha1]; exact (putsL_some _ _ _ _ (by decide) (show 93 < 108 from by decide)).trans (congrArg some (hdep 22 (by kernel_rfl)))
                      exact wpOp_off rfl rfl (yielded_of rfl G93) ⟨hIW, fun _ h => h, Or.inl ⟨_, by decide, rfl, updF_same _ _ _⟩⟩
                    | 24, _, hdep =>
                      have G93 : a1.tmps[93]? = some (.bool false) := by rw [← ha1]; exact (putsL_some _ _ _ _ (by decide) (show 93 < 108 from by decide)).trans (congrArg some (hdep 22 (by kernel_rfl)))
                      exact wpOp_off rfl rfl (yielded_of rfl G93) ⟨hIW, fun _ h => h, Or.inl ⟨_, by decide, rfl, updF_same _ _ _⟩⟩
                    | 25, _, hdep =>
                      have G93 : a1.tmps[93]? = some (.bool false) := by rw [← ha1]; exact (putsL_some _ _ _ _ (by decide) (show 93 < 108 from by decide)).trans (congrArg some (hdep 22 (by kernel_rfl)))
                      exact wpOp_off rfl rfl (yielded_of rfl G93) ⟨hIW, fun _ h => h, Or.inl ⟨_, by decide, rfl, updF_same _ _ _⟩⟩
                    | 26, _, hdep =>
                      have G93 : a1.tmps[93]? = some (.bool false) := by rw [← ha1]; exact (putsL_some _ _ _ _ (by decide) (show 93 < 108 from by decide)).trans (congrArg some (hdep 22 (by kernel_rfl)))
                      exact wpOp_off rfl rfl (yielded_of rfl G93) ⟨hIW, fun _ h => h, Or.inl ⟨_, by decide, rfl, updF_same _ _ _⟩⟩
                    | 27, _, hdep =>
                      have G93 : a1.tmps[93]? = some (.bool false) := by rw [← ha1]; exact (putsL_some _ _ _ _ (by decide) (show 93 < 108 from by decide)).trans (congrArg some (hdep 22 (by kernel_rfl)))
                      exact wpOp_off rfl rfl (yielded_of rfl G93) ⟨hIW, fun _ h => h, Or.inl ⟨_, by decide, rfl, updF_same _ _ _⟩⟩
                    | 28, _, hdep =>
                      have G84 : a1.tmps[84]? = some (.bool false) := by rw [← ha1]; exact (putsL_some _ _ _ _ (by decide) (show 84 < 108 from by decide)).trans (congrArg some (hdep 13 (by kernel_rfl)))
                      have E93 : a1.tmps[93]?.getD undef = .bool false := by rw [← ha1]; exact (putsL_in2 _ _ _ _ (by decide) (show 93 < 108 from by decide)).trans (hdep 22 (by kernel_rfl))
                      have E98 : a1.tmps[98]?.getD undef = undef := by rw [← ha1]; exact (putsL_in2 _ _ _ _ (by decide) (show 98 < 108 from by decide)).trans (hdep 27 (by kernel_rfl))
                      exact wpOp_valG rfl rfl (yielded_of rfl G84) (v := .bool false) (w' := W) (by simp [execOp, go_sem, E93, E98]) ⟨hIW, fun _ h => h, Or.inl ⟨_, by decide, rfl, updF_same _ _ _⟩⟩
                    | 29, _, hdep =>
                      have E84 : a1.tmps[84]?.getD undef = .bool false := by rw [← ha1]; exact (putsL_in2 _ _ _ _ (by decide) (show 84 < 108 from by decide)).trans (hdep 13 (by kernel_rfl))
                      have E99 : a1.tmps[99]?.getD undef = .bool false := by rw [← ha1]; exact (putsL_in2 _ _ _ _ (by decide) (show 99 < 108 from by decide)).trans (hdep 28 (by kernel_rfl))
                      exact wpOp_val rfl rfl (v := .bool false) (w' := W) (by simp [execOp, go_sem, E84, E99]) ⟨hIW, fun _ h => h, Or.inl ⟨_, by decide, rfl, updF_same _ _ _⟩⟩
                    | i + 30, h, _ => exact absurd h (by omega)
                  case refine_2 =>
                    intro f W hIW hR
                    have h29 : f 100 = .bool false := hR 29 (show 29 < 30 from by decide)
                    simp only [putsL, List.foldl_cons, List.foldl_nil, Act.put, List.setIfInBounds_toArray, List.set_cons_zero, List.set_cons_succ]
                    go_wp2
                    go_meet
                    exact ⟨h29, Lib.hid hIW⟩
                · have hy1 : (y == 0) = false := by rw [beq_eq_false_iff_ne]; exact hy
                  have hy2 : (y != 0) = true := by rw [bne, hy1]; rfl
                  have HC3 := Lib.hid (HC2.out hx hy)
                  clear hx hy g1 g2 g3 hnew
                  refine wp_region_props [71, 72, 73, 74, 75, 76, 77, 78, 79, 80, 81, 82, 83, 84, 85, 86, 87, 88, 89, 90, 91, 92, 93, 94, 95, 96, 97, 98, 99, 100] (slotT 71) (readsT 71) (RT 71 [.agg #[.int .i64 cb, .slice aU nU cU, .slice aV (m + 1) cV], .int .i64 (p1 - p2), .int .i64 p1, .int .i64 p2, .int .i64 (p1 - p2), .bool false, .bool false, .int .i64 (p1 - p2), .int .i64 p1, .int .i64 p2, .int .i64 (p1 - p2), .bool false, .bool false, .bool false, .pointer (some ⟨bE, 2, none⟩), .int .i64 x, .bool true, .bool true, .pointer (some ⟨bE, 3, none⟩), .int .i64 y, .bool true, .bool true, .bool true, .agg #[.int .i64 cb, .slice aU nU cU, .slice aV (m + 1) cV], .int .i64 (p1 - p2), .agg #[.int .i64 cr, .slice aS nU cS, .slice aE m cE], .int .i64 (p1 - p2), .bool false, .bool false, .bool false]) J (by kernel_rfl) (by kernel_rfl) (by kernel_rfl) (HJD.out _ HJ0.out) (fun j f q v W hq h => RT.upd hq h) ?_ ?_
                  case refine_1 =>
                    intro i hi f W hIW hdep
                    have hi' : i < 30 := hi
                    generalize ha1 : putsL _ [71, 72, 73, 74, 75, 76, 77, 78, 79, 80, 81, 82, 83, 84, 85, 86, 87, 88, 89, 90, 91, 92, 93, 94, 95, 96, 97, 98, 99, 100] f = a1
                    match i, hi', hdep with
                    | 0, _, hdep =>
                      have E9 : a1.tmps[9]?.getD undef = .pointer (some ⟨bB, 0, none⟩) := by rw [← ha1]; exact (putsL_out2 _ _ _ _ (by decide)).trans rfl
                      obtain ⟨k1, -, -⟩ := HS.out W hIW
                      have v0 := k1 0
                      have v1 := k1 1
                      have v2 := k1 2
                      simp at v0 v1 v2
                      exact wpOp_val rfl rfl (v := .agg #[.int .i64 cb, .slice aU nU cU, .slice aV (m + 1) cV]) (w' := W) (by simp [execOp, go_sem, E9, v0, v1, v2]) ⟨hIW, fun _ h => h, Or.inl ⟨_, by decide, rfl, updF_same _ _ _⟩⟩
                    | 1, _, hdep =>
                      have E71 : a1.tmps[71]?.getD undef = .agg #[.int .i64 cb, .slice aU nU cU, .slice aV (m + 1) cV] := by rw [← ha1]; exact (putsL_in2 _ _ _ _ (by decide) (show 71 < 108 from by decide)).trans (hdep 0 (by kernel_rfl))
                      refine wpOp_call rfl rfl (n := 14) (vs := #[.agg #[.int .i64 cb, .slice aU nU cU, .slice aV (m + 1) cV]]) (by have := egT #[.agg #[.int .i64 cb, .slice aU nU cU, .slice aV (m + 1) cV]] W; simp [execOp, E71, resolve, invoke, go_sem] <;> exact this) ((HC1.out W hIW).mono fun e w' h => (⟨_, h.1, rfl, h.2⟩ : ∃ v, e = .returned v ∧ (v = .int .i64 (p1 - p2) ∧ J w'))) ?_
                      rintro v w' ⟨rfl, hI'⟩
                      exact ⟨hI', fun _ h => h, Or.inl ⟨_, by decide, rfl, updF_same _ _ _⟩⟩
                    | 2, _, hdep =>
                      have E11 : a1.tmps[11]?.getD undef = .int .i64 p1 := by rw [← ha1]; exact (putsL_out2 _ _ _ _ (by decide)).trans rfl
                      exact wpOp_val rfl rfl (v := .int .i64 p1) (w' := W) (by simp [execOp, go_sem, E11]) ⟨hIW, fun _ h => h, Or.inl ⟨_, by decide, rfl, updF_same _ _ _⟩⟩
                    | 3, _, hdep =>
                      have E12 : a1.tmps[12]?.getD undef = .int .i64 p2 := by rw [← ha1]; exact (putsL_out2 _ _ _ _ (by decide)).trans rfl
                      exact wpOp_val rfl rfl (v := .int .i64 p2) (w' := W) (by simp [execOp, go_sem, E12]) ⟨hIW, fun _ h => h, Or.inl ⟨_, by decide, rfl, updF_same _ _ _⟩⟩
                    | 4, _, hdep =>
                      have E73 : a1.tmps[73]?.getD undef = .int .i64 p1 := by rw [← ha1]; exact (putsL_in2 _ _ _ _ (by decide) (show 73 < 108 from by decide)).trans (hdep 2 (by kernel_rfl))
                      have E74 : a1.tmps[74]?.getD undef = .int .i64 p2 := by rw [← ha1]; exact (putsL_in2 _ _ _ _ (by decide) (show 74 < 108 from by decide)).trans (hdep 3 (by kernel_rfl))
                      exact wpOp_val rfl rfl (v := .int .i64 (p1 - p2)) (w' := W) (by simp [execOp, go_sem, E73, E74, hw1]) ⟨hIW, fun _ h => h, Or.inl ⟨_, by decide, rfl, updF_same _ _ _⟩⟩
                    | 5, _, hdep =>
                      have E72 : a1.tmps[72]?.getD undef = .int .i64 (p1 - p2) := by rw [← ha1]; exact (putsL_in2 _ _ _ _ (by decide) (show 72 < 108 from by decide)).trans (hdep 1 (by kernel_rfl))
                      have E75 : a1.tmps[75]?.getD undef = .int .i64 (p1 - p2) := by rw [← ha1]; exact (putsL_in2 _ _ _ _ (by decide) (show 75 < 108 from by decide)).trans (hdep 4 (by kernel_rfl))
                      exact wpOp_val rfl rfl (v := .bool false) (w' := W) (by simp [execOp, go_sem, E72, E75, hn0, hn1]) ⟨hIW, fun _ h => h, Or.inl ⟨_, by decide, rfl, updF_same _ _ _⟩⟩
                    | 6, _, hdep =>
                      have E76 : a1.tmps[76]?.getD undef = .bool false := by rw [← ha1]; exact (putsL_in2 _ _ _ _ (by decide) (show 76 < 108 from by decide)).trans (hdep 5 (by kernel_rfl))
                      exact wpOp_val rfl rfl (v := .bool false) (w' := W) (by simp [execOp, go_sem, E76]) ⟨hIW, fun _ h => h, Or.inl ⟨_, by decide, rfl, updF_same _ _ _⟩⟩
                    | 7, _, hdep =>
                      have G77 : a1.tmps[77]? = some (.bool false) := by rw [← ha1]; exact (putsL_some _ _ _ _ (by decide) (show 77 < 108 from by decide)).trans (congrArg some (hdep 6 (by kernel_rfl)))
                      have E13 : a1.tmps[13]?.getD undef = .int .i64 (p1 - p2) := by rw [← ha1]; exact (putsL_out2 _ _ _ _ (by decide)).trans rfl
                      exact wpOp_valG rfl rfl (yielded_of rfl G77) (v := .int .i64 (p1 - p2)) (w' := W) (by simp [execOp, go_sem, E13]) ⟨hIW, fun _ h => h, Or.inl ⟨_, by decide, rfl, updF_same _ _ _⟩⟩
                    | 8, _, hdep =>
                      have G77 : a1.tmps[77]? = some (.bool false) := by rw [← ha1]; exact (putsL_some _ _ _ _ (by decide) (show 77 < 108 from by decide)).trans (congrArg some (hdep 6 (by kernel_rfl)))
                      have E11 : a1.tmps[11]?.getD undef = .int .i64 p1 := by rw [← ha1]; exact (putsL_out2 _ _ _ _ (by decide)).trans rfl
                      exact wpOp_valG rfl rfl (yielded_of rfl G77) (v := .int .i64 p1) (w' := W) (by simp [execOp, go_sem, E11]) ⟨hIW, fun _ h => h, Or.inl ⟨_, by decide, rfl, updF_same _ _ _⟩⟩
                    | 9, _, hdep =>
                      have G77 : a1.tmps[77]? = some (.bool false) := by rw [← ha1]; exact (putsL_some _ _ _ _ (by decide) (show 77 < 108 from by decide)).trans (congrArg some (hdep 6 (by kernel_rfl)))
                      have E12 : a1.tmps[12]?.getD undef = .int .i64 p2 := by rw [← ha1]; exact (putsL_out2 _ _ _ _ (by decide)).trans rfl
                      exact wpOp_valG rfl rfl (yielded_of rfl G77) (v := .int .i64 p2) (w' := W) (by simp [execOp, go_sem, E12]) ⟨hIW, fun _ h => h, Or.inl ⟨_, by decide, rfl, updF_same _ _ _⟩⟩
                    | 10, _, hdep =>
                      have G77 : a1.tmps[77]? = some (.bool false) := by rw [← ha1]; exact (putsL_some _ _ _ _ (by decide) (show 77 < 108 from by decide)).trans (congrArg some (hdep 6 (by kernel_rfl)))
                      have E79 : a1.tmps[79]?.getD undef = .int .i64 p1 := by rw [← ha1]; exact (putsL_in2 _ _ _ _ (by decide) (show 79 < 108 from by decide)).trans (hdep 8 (by kernel_rfl))
                      have E80 : a1.tmps[80]?.getD undef = .int .i64 p2 := by rw [← ha1]; exact (putsL_in2 _ _ _ _ (by decide) (show 80 < 108 from by decide)).trans (hdep 9 (by kernel_rfl))
                      exact wpOp_valG rfl rfl (yielded_of rfl G77) (v := .int .i64 (p1 - p2)) (w' := W) (by simp [execOp, go_sem, E79, E80, hw1]) ⟨hIW, fun _ h => h, Or.inl ⟨_, by decide, rfl, updF_same _ _ _⟩⟩
                    | 11, _, hdep =>
                      have G77 : a1.tmps[77]? = some (.bool false) := by rw [← ha1]; exact (putsL_some _ _ _ _ (by decide) (show 77 < 108 from by decide)).trans (congrArg some (hdep 6 (by kernel_rfl)))
                      have E78 : a1.tmps[78]?.getD undef = .int .i64 (p1 - p2) := by rw [← ha1]; exact (putsL_in2 _ _ _ _ (by decide) (show 78 < 108 from by decide)).trans (hdep 7 (by kernel_rfl))
                      have E81 : a1.tmps[81]?.getD undef = .int .i64 (p1 - p2) := by rw [← ha1]; exact (putsL_in2 _ _ _ _ (by decide) (show 81 < 108 from by decide)).trans (hdep 10 (by kernel_rfl))
                      exact wpOp_valG rfl rfl (yielded_of rfl G77) (v := .bool false) (w' := W) (by simp [execOp, go_sem, E78, E81, hn0, hn1]) ⟨hIW, fun _ h => h, Or.inl ⟨_, by decide, rfl, updF_same _ _ _⟩⟩
                    | 12, _, hdep =>
                      have E77 : a1.tmps[77]?.getD undef = .bool false := by rw [← ha1]; exact (putsL_in2 _ _ _ _ (by decide) (show 77 < 108 from by decide)).trans (hdep 6 (by kernel_rfl))
                      have E82 : a1.tmps[82]?.getD undef = .bool false := by rw [← ha1]; exact (putsL_in2 _ _ _ _ (by decide) (show 82 < 108 from by decide)).trans (hdep 11 (by kernel_rfl))
                      exact wpOp_val rfl rfl (v := .bool false) (w' := W) (by simp [execOp, go_sem, E77, E82]) ⟨hIW, fun _ h => h, Or.inl ⟨_, by decide, rfl, updF_same _ _ _⟩⟩
                    | 13, _, hdep =>
                      have E83 : a1.tmps[83]?.getD undef = .bool false := by rw [← ha1]; exact (putsL_in2 _ _ _ _ (by decide) (show 83 < 108 from by decide)).trans (hdep 12 (by kernel_rfl))
                      exact wpOp_val rfl rfl (v := .bool false) (w' := W) (by simp [execOp, go_sem, E83]) ⟨hIW, fun _ h => h, Or.inl ⟨_, by decide, rfl, updF_same _ _ _⟩⟩
                    | 14, _, hdep =>
                      have G84 : a1.tmps[84]? = some (.bool false) := by rw [← ha1]; exact (putsL_some _ _ _ _ (by decide) (show 84 < 108 from by decide)).trans (congrArg some (hdep 13 (by kernel_rfl)))
                      have E8 : a1.tmps[8]?.getD undef = .pointer (some ⟨bE, 0, none⟩) := by rw [← ha1]; exact (putsL_out2 _ _ _ _ (by decide)).trans rfl
                      exact wpOp_valG rfl rfl (yielded_of rfl G84) (v := .pointer (some ⟨bE, 2, none⟩)) (w' := W) (by simp [execOp, go_sem, E8]) ⟨hIW, fun _ h => h, Or.inl ⟨_, by decide, rfl, updF_same _ _ _⟩⟩
                    | 15, _, hdep =>
                      have G84 : a1.tmps[84]? = some (.bool false) := by rw [← ha1]; exact (putsL_some _ _ _ _ (by decide) (show 84 < 108 from by decide)).trans (congrArg some (hdep 13 (by kernel_rfl)))
                      have E85 : a1.tmps[85]?.getD undef = .pointer (some ⟨bE, 2, none⟩) := by rw [← ha1]; exact (putsL_in2 _ _ _ _ (by decide) (show 85 < 108 from by decide)).trans (hdep 14 (by kernel_rfl))
                      obtain ⟨-, k1, -⟩ := HS.out W hIW
                      have v0 := k1 2
                      simp at v0
                      exact wpOp_valG rfl rfl (yielded_of rfl G84) (v := .int .i64 x) (w' := W) (by simp [execOp, go_sem, E85, v0]) ⟨hIW, fun _ h => h, Or.inl ⟨_, by decide, rfl, updF_same _ _ _⟩⟩
                    | 16, _, hdep =>
                      have G84 : a1.tmps[84]? = some (.bool false) := by rw [← ha1]; exact (putsL_some _ _ _ _ (by decide) (show 84 < 108 from by decide)).trans (congrArg some (hdep 13 (by kernel_rfl)))
                      have E86 : a1.tmps[86]?.getD undef = .int .i64 x := by rw [← ha1]; exact (putsL_in2 _ _ _ _ (by decide) (show 86 < 108 from by decide)).trans (hdep 15 (by kernel_rfl))
                      exact wpOp_valG rfl rfl (yielded_of rfl G84) (v := .bool true) (w' := W) (by simp [execOp, go_sem, E86, hx1, hx2]) ⟨hIW, fun _ h => h, Or.inl ⟨_, by decide, rfl, updF_same _ _ _⟩⟩
                    | 17, _, hdep =>
                      have G84 : a1.tmps[84]? = some (.bool false) := by rw [← ha1]; exact (putsL_some _ _ _ _ (by decide) (show 84 < 108 from by decide)).trans (congrArg some (hdep 13 (by kernel_rfl)))
                      have E87 : a1.tmps[87]?.getD undef = .bool true := by rw [← ha1]; exact (putsL_in2 _ _ _ _ (by decide) (show 87 < 108 from by decide)).trans (hdep 16 (by kernel_rfl))
                      exact wpOp_valG rfl rfl (yielded_of rfl G84) (v := .bool true) (w' := W) (by simp [execOp, go_sem, E87]) ⟨hIW, fun _ h => h, Or.inl ⟨_, by decide, rfl, updF_same _ _ _⟩⟩
                    | 18, _, hdep =>
                      have G88 : a1.tmps[88]? = some (.bool true) := by rw [← ha1]; exact (putsL_some _ _ _ _ (by decide) (show 88 < 108 from by decide)).trans (congrArg some (hdep 17 (by kernel_rfl)))
                      have E8 : a1.tmps[8]?.getD undef = .pointer (some ⟨bE, 0, none⟩) := by rw [← ha1]; exact (putsL_out2 _ _ _ _ (by decide)).trans rfl
                      exact wpOp_valG rfl rfl (yielded_of rfl G88) (v := .pointer (some ⟨bE, 3, none⟩)) (w' := W) (by simp [execOp, go_sem, E8]) ⟨hIW, fun _ h => h, Or.inl ⟨_, by decide, rfl, updF_same _ _ _⟩⟩
                    | 19, _, hdep =>
                      have G88 : a1.tmps[88]? = some (.bool true) := by rw [← ha1]; exact (putsL_some _ _ _ _ (by decide) (show 88 < 108 from by decide)).trans (congrArg some (hdep 17 (by kernel_rfl)))
                      have E89 : a1.tmps[89]?.getD undef = .pointer (some ⟨bE, 3, none⟩) := by rw [← ha1]; exact (putsL_in2 _ _ _ _ (by decide) (show 89 < 108 from by decide)).trans (hdep 18 (by kernel_rfl))
                      obtain ⟨-, k1, -⟩ := HS.out W hIW
                      have v0 := k1 3
                      simp at v0
                      exact wpOp_valG rfl rfl (yielded_of rfl G88) (v := .int .i64 y) (w' := W) (by simp [execOp, go_sem, E89, v0]) ⟨hIW, fun _ h => h, Or.inl ⟨_, by decide, rfl, updF_same _ _ _⟩⟩
                    | 20, _, hdep =>
                      have G88 : a1.tmps[88]? = some (.bool true) := by rw [← ha1]; exact (putsL_some _ _ _ _ (by decide) (show 88 < 108 from by decide)).trans (congrArg some (hdep 17 (by kernel_rfl)))
                      have E90 : a1.tmps[90]?.getD undef = .int .i64 y := by rw [← ha1]; exact (putsL_in2 _ _ _ _ (by decide) (show 90 < 108 from by decide)).trans (hdep 19 (by kernel_rfl))
                      exact wpOp_valG rfl rfl (yielded_of rfl G88) (v := .bool true) (w' := W) (by simp [execOp, go_sem, E90, hy1, hy2]) ⟨hIW, fun _ h => h, Or.inl ⟨_, by decide, rfl, updF_same _ _ _⟩⟩
                    | 21, _, hdep =>
                      have G84 : a1.tmps[84]? = some (.bool false) := by rw [← ha1]; exact (putsL_some _ _ _ _ (by decide) (show 84 < 108 from by decide)).trans (congrArg some (hdep 13 (by kernel_rfl)))
                      have E88 : a1.tmps[88]?.getD undef = .bool true := by rw [← ha1]; exact (putsL_in2 _ _ _ _ (by decide) (show 88 < 108 from by decide)).trans (hdep 17 (by kernel_rfl))
                      have E91 : a1.tmps[91]?.getD undef = .bool true := by rw [← ha1]; exact (putsL_in2 _ _ _ _ (by decide) (show 91 < 108 from by decide)).trans (hdep 20 (by kernel_rfl))
                      exact wpOp_valG rfl rfl (yielded_of rfl G84) (v := .bool true) (w' := W) (by simp [execOp, go_sem, E88, E91]) ⟨hIW, fun _ h => h, Or.inl ⟨_, by decide, rfl, updF_same _ _ _⟩⟩
                    | 22, _, hdep =>
                      have G84 : a1.tmps[84]? = some (.bool false) := by rw [← ha1]; exact (putsL_some _ _ _ _ (by decide) (show 84 < 108 from by decide)).trans (congrArg some (hdep 13 (by kernel_rfl)))
                      have E92 : a1.tmps[92]?.getD undef = .bool true := by rw [← ha1]; exact (putsL_in2 _ _ _ _ (by decide) (show 92 < 108 from by decide)).trans (hdep 21 (by kernel_rfl))
                      exact wpOp_valG rfl rfl (yielded_of rfl G84) (v := .bool true) (w' := W) (by simp [execOp, go_sem, E92]) ⟨hIW, fun _ h => h, Or.inl ⟨_, by decide, rfl, updF_same _ _ _⟩⟩
                    | 23, _, hdep =>
                      have G93 : a1.tmps[93]? = some (.bool true) := by rw [← ha1]; exact (putsL_some _ _ _ _ (by decide) (show 93 < 108 from by decide)).trans (congrArg some (hdep 22 (by kernel_rfl)))
                      have E9 : a1.tmps[9]?.getD undef = .pointer (some ⟨bB, 0, none⟩) := by rw [← ha1]; exact (putsL_out2 _ _ _ _ (by decide)).trans rfl
                      obtain ⟨k1, -, -⟩ := HS.out W hIW
                      have v0 := k1 0
                      have v1 := k1 1
                      have v2 := k1 2
                      simp at v0 v1 v2
                      exact wpOp_valG rfl rfl (yielded_of rfl G93) (v := .agg #[.int .i64 cb, .slice aU nU cU, .slice aV (m + 1) cV]) (w' := W) (by simp [execOp, go_sem, E9, v0, v1, v2]) ⟨hIW, fun _ h => h, Or.inl ⟨_, by decide, rfl, updF_same _ _ _⟩⟩
                    | 24, _, hdep =>
                      have G93 : a1.tmps[93]? = some (.bool true) := by rw [← ha1]; exact (putsL_some _ _ _ _ (by decide) (show 93 < 108 from by decide)).trans (congrArg some (hdep 22 (by kernel_rfl)))
                      have E94 : a1.tmps[94]?.getD undef = .agg #[.int .i64 cb, .slice aU nU cU, .slice aV (m + 1) cV] := by rw [← ha1]; exact (putsL_in2 _ _ _ _ (by decide) (show 94 < 108 from by decide)).trans (hdep 23 (by kernel_rfl))
                      refine wpOp_callG rfl rfl (yielded_of rfl G93) (n := 14) (vs := #[.agg #[.int .i64 cb, .slice aU nU cU, .slice aV (m + 1) cV]]) (by have := egT #[.agg #[.int .i64 cb, .slice aU nU cU, .slice aV (m + 1) cV]] W; simp [execOp, E94, resolve, invoke, go_sem] <;> exact this) ((HC1.out W hIW).mono fun e w' h => (⟨_, h.1, rfl, h.2⟩ : ∃ v, e = .returned v ∧ (v = .int .i64 (p1 - p2) ∧ J w'))) ?_
                      rintro v w' ⟨rfl, hI'⟩
                      exact ⟨hI', fun _ h => h, Or.inl ⟨_, by decide, rfl, updF_same _ _ _⟩⟩
                    | 25, _, hdep =>
                      have G93 : a1.tmps[93]? = some (.bool true) := by rw [← ha1]; exact (putsL_some _ _ _ _ (by decide) (show 93 < 108 from by decide)).trans (congrArg some (hdep 22 (by kernel_rfl)))
                      have E4 : a1.tmps[4]?.getD undef = .pointer (some ⟨bA, 0, none⟩) := by rw [← ha1]; exact (putsL_out2 _ _ _ _ (by decide)).trans rfl
                      obtain ⟨-, -, k1⟩ := HS.out W hIW
                      have v0 := k1 0
                      have v1 := k1 1
                      have v2 := k1 2
                      simp at v0 v1 v2
                      exact wpOp_valG rfl rfl (yielded_of rfl G93) (v := .agg #[.int .i64 cr, .slice aS nU cS, .slice aE m cE]) (w' := W) (by simp [execOp, go_sem, E4, v0, v1, v2]) ⟨hIW, fun _ h => h, Or.inl ⟨_, by decide, rfl, updF_same _ _ _⟩⟩
                    | 26, _, hdep =>
                      have G93 : a1.tmps[93]? = some (.bool true) := by rw [← ha1]; exact (putsL_some _ _ _ _ (by decide) (show 93 < 108 from by decide)).trans (congrArg some (hdep 22 (by kernel_rfl)))
                      have E96 : a1.tmps[96]?.getD undef = .agg #[.int .i64 cr, .slice aS nU cS, .slice aE m cE] := by rw [← ha1]; exact (putsL_in2 _ _ _ _ (by decide) (show 96 < 108 from by decide)).trans (hdep 25 (by kernel_rfl))
                      refine wpOp_callG rfl rfl (yielded_of rfl G93) (n := 14) (vs := #[.agg #[.int .i64 cr, .slice aS nU cS, .slice aE m cE]]) (by have := egT #[.agg #[.int .i64 cr, .slice aS nU cS, .slice aE m cE]] W; simp [execOp, E96, resolve, invoke, go_sem] <;> exact this) ((HC3.out W hIW).mono fun e w' h => (⟨_, h.1, rfl, h.2⟩ : ∃ v, e = .returned v ∧ (v = .int .i64 (p1 - p2) ∧ J w'))) ?_
                      rintro v w' ⟨rfl, hI'⟩
                      exact ⟨hI', fun _ h => h, Or.inl ⟨_, by decide, rfl, updF_same _ _ _⟩⟩
                    | 27, _, hdep =>
                      have G93 : a1.tmps[93]? = some (.bool true) := by rw [← ha1]; exact (putsL_some _ _ _ _ (by decide) (show 93 < 108 from by decide)).trans (congrArg some (hdep 22 (by kernel_rfl)))
                      have E95 : a1.tmps[95]?.getD undef = .int .i64 (p1 - p2) := by rw [← ha1]; exact (putsL_in2 _ _ _ _ (by decide) (show 95 < 108 from by decide)).trans (hdep 24 (by kernel_rfl))
                      have E97 : a1.tmps[97]?.getD undef = .int .i64 (p1 - p2) := by rw [← ha1]; exact (putsL_in2 _ _ _ _ (by decide) (show 97 < 108 from by decide)).trans (hdep 26 (by kernel_rfl))
                      exact wpOp_valG rfl rfl (yielded_of rfl G93) (v := .bool false) (w' := W) (by simp [execOp, go_sem, E95, E97, hn0, hn1]) ⟨hIW, fun _ h => h, Or.inl ⟨_, by decide, rfl, updF_same _ _ _⟩⟩
                    | 28, _, hdep =>
                      have G84 : a1.tmps[84]? = some (.bool false) := by rw [← ha1]; exact (putsL_some _ _ _ _ (by decide) (show 84 < 108 from by decide)).trans (congrArg some (hdep 13 (by kernel_rfl)))
                      have E93 : a1.tmps[93]?.getD undef = .bool true := by rw [← ha1]; exact (putsL_in2 _ _ _ _ (by decide) (show 93 < 108 from by decide)).trans (hdep 22 (by kernel_rfl))
                      have E98 : a1.tmps[98]?.getD undef = .bool false := by rw [← ha1]; exact (putsL_in2 _ _ _ _ (by decide) (show 98 < 108 from by decide)).trans (hdep 27 (by kernel_rfl))
                      exact wpOp_valG rfl rfl (yielded_of rfl G84) (v := .bool false) (w' := W) (by simp [execOp, go_sem, E93, E98]) ⟨hIW, fun _ h => h, Or.inl ⟨_, by decide, rfl, updF_same _ _ _⟩⟩
                    | 29, _, hdep =>
                      have E84 : a1.tmps[84]?.getD undef = .bool false := by rw [← ha1]; exact (putsL_in2 _ _ _ _ (by decide) (show 84 < 108 from by decide)).trans (hdep 13 (by kernel_rfl))
                      have E99 : a1.tmps[99]?.getD undef = .bool false := by rw [← ha1]; exact (putsL_in2 _ _ _ _ (by decide) (show 99 < 108 from by decide)).trans (hdep 28 (by kernel_rfl))
                      exact wpOp_val rfl rfl (v := .bool false) (w' := W) (by simp [execOp, go_sem, E84, E99]) ⟨hIW, fun _ h => h, Or.inl ⟨_, by decide, rfl, updF_same _ _ _⟩⟩
                    | i + 30, h, _ => exact absurd h (by omega)
                  case refine_2 =>
                    intro f W hIW hR
                    have h29 : f 100 = .bool false := hR 29 (show 29 < 30 from by decide)
                    simp only [putsL, List.foldl_cons, List.foldl_nil, Act.put, List.setIfInBounds_toArray, List.set_cons_zero, List.set_cons_succ]
                    go_wp2
                    go_meet
                    exact ⟨h29, Lib.hid hIW⟩
            case rest =>
              obtain ⟨rfl, HJW⟩ := hcut
              have hbw := HJO.out _ HJW.out
              have HAW := Lib.hid (HA8.out.below hbw)
              have hbx := obj_below HB8.out hbw
              have q0 := obj_cell hbx 0
              have q1 := obj_cell hbx 1
              have q2 := obj_cell hbx 2
              have hax := HAW.out.box
              have s0 := obj_cell hax 0
              have s1 := obj_cell hax 1
              have s2 := obj_cell hax 2
              have f0 := obj_free hax 0
              have f1 := obj_free hax 1
              have f2 := obj_free hax 2
              have hnb : bB ≠ bA := by omega
              simp at q0 q1 q2 s0 s1 s2
              have HAB : Hid (AX w1 tb bA b (.slice aU nU cU) (.slice aV (m + 1) cV) (put3 wc bA (.int .i64 cb) (.slice aU nU cU) (.slice aV (m + 1) cV))) := Lib.hid (by
                have hg := put3_grown wc bA (.int .i64 cb) (.slice aU nU cU) (.slice aV (m + 1) cV)
                have hl := lone_acc HAW.out.box
                have ho := HAW.out.out
                exact ⟨HAW.out.si.grown hg (fun q e => by injection e with e; omega), by rw [← HCB2.out]; exact put3_at HAW.out.box rfl _ _ _, (HS8.out.below hbw).keep hl hg, (HN8.out.below hbw).keep hl hg, HAW.out.far, ho⟩)
              clear hbx hax hbw HJO HJI HJD HC1 HC2 HS HJ0
              go_upto_region 6 with fail
              obtain ⟨W7, hW7⟩ : ∃ W, W = put3 wc bA (.int .i64 cb) (.slice aU nU cU) (.slice aV (m + 1) cV) := ⟨_, rfl⟩
              rw [← hW7] at HAB
              show Code.wp _ _ _ _ (put3 wc bA (.int .i64 cb) (.slice aU nU cU) (.slice aV (m + 1) cV))
              rw [← hW7]
              clear hW7 s0 s1 s2 f0 f1 f2 q0 q1 q2
              go_wp2
              go_roundw
              case rel => exact ⟨b, _, _, d, k + 1, rfl, by first | rfl | go_num, by omega, hd2.1, by omega, HMB, HCB, HAB⟩
              case measure => simp [RowKit.intOf]; omega
    · have hk2 : k = 12 := by omega
      subst hk2
      have HCK : Hid (Calls Try.prog 15 #[.agg #[.int .i64 cr, .slice aS s cS, .slice aE m cE]] wr fun e w' => e = .returned (.int .i64 0) ∧ Below wr.heap.size wr w') := Lib.hid (by
        have h := acCheck_any a (.slice aS s cS) (.slice aE m cE) wr HA.out.subs HA.out.ents (by rw [← HSL.out]; omega) (by rw [← HML.out]; omega)
        rw [HMD.out.right, ← HCR.out] at h
        exact h)
      have HFIN : Hid (Below w.heap.size w wr) := Lib.hid (HW1.out.grown HA.out.si.old HW1.out.size (fun q e => by injection e with e; rw [← e, ← HTB.out]; exact Nat.le_refl _))
      have hbx := HA.out.box
      rw [← HCR.out] at hbx
      have u0 := obj_cell hbx 0
      have u1 := obj_cell hbx 1
      have u2 := obj_cell hbx 2
      simp at u0 u1 u2
      clear hbx
      go_wp2_with fail
      refine (HCK.out).mono ?_
      rintro e w9 ⟨rfl, hb9⟩
      have HB9 := Lib.hid (HFIN.out.trans (hb9.mono HFIN.out.size))
      clear hb9
      go_wp2_with fail
      refine (HSN.out _).mono ?_
      rintro e w10 ⟨rfl, hb10⟩
      have HB10 := Lib.hid (HB9.out.trans (hb10.mono HB9.out.size))
      clear hb10
      go_wp2
      go_ret
      exact ⟨rfl, HB10.out⟩

end Go.Proofs.Ythajkhonapjihac
