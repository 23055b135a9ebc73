/- Contracts of slices.Equal at sub-accounts and of the account's own Check. -/
import Derived.Test.YtoelidndnajedabMAcQ
import Derived.Test.YtoelidndnajedabMAcJ
set_option linter.unusedSimpArgs false
set_option linter.unusedVariables false
set_option linter.unusedSimpArgs false
set_option linter.unusedVariables false
namespace Go.Proofs.Ytoelidndnajedab
open Go.RowKit Go.Lib Go.Proofs

theorem rep_ids {cr : Int} : ∀ {es : List Ent} {l m : List SubA} {last : Ent}, repM cr es l last = some m → m.map SubA.id = l.map SubA.id
  | [], l, m, _, h => by injection h with h; rw [h]
  | e :: es, l, m, last, h => by
    simp only [repM] at h
    split at h
    · cases h
    · rename_i l' hl
      rw [rep_ids h, addM_ids hl]

set_option maxRecDepth 100000 in
set_option maxHeartbeats 4000000 in
theorem EqSub_any (v v2 : Value) (l m : List SubA) (w : World) (h : SubsAt w v l) (h2 : SubsAt w v2 m) (hlen : l.length ≤ 1000000) (hlen2 : m.length ≤ 1000000) :
    Calls Try.prog 61 #[v, v2] w fun e w' => e = .returned (.bool (sameL l m)) ∧ Below w.heap.size w w' := by
  obtain ⟨r, hr⟩ : ∃ r, r = sameL l m := ⟨_, rfl⟩
  have HR := Lib.hid hr
  rw [← hr]
  clear hr
  obtain ⟨ao, cap, rfl, hcap, hcells⟩ := h.shape
  obtain ⟨ao2, cap2, rfl, hcap2, hcells2⟩ := h2.shape
  have HC := Lib.hid hcells
  have HC2 := Lib.hid hcells2
  clear hcells hcells2 h h2
  by_cases hn : l.length = m.length
  case neg =>
    obtain rfl : r = false := by
      rw [HR.out]
      cases hq : sameL l m with
      | false => rfl
      | true => exact absurd (congrArg List.length (sameL_eq.1 hq)) hn
    obtain ⟨n1, hn1⟩ : ∃ n1, n1 = l.length := ⟨_, rfl⟩
    obtain ⟨n2, hn2⟩ : ∃ n2, n2 = m.length := ⟨_, rfl⟩
    have hne : ((n1 : Int) == (n2 : Int)) = false := by rw [beq_eq_false_iff_ne, hn1, hn2]; omega
    have hne2 : ((n1 : Int) != (n2 : Int)) = true := by rw [bne, hne]; rfl
    rw [← hn1, ← hn2]
    rw [← hn1] at hcap hlen
    rw [← hn2] at hcap2 hlen2
    clear hn hn1 hn2
    go_enter Try.func61, Try.ntmps61
    go_wp2
    go_ret
    exact ⟨rfl, Below.refl _ _⟩
  obtain ⟨n, hnn⟩ : ∃ n, n = l.length := ⟨_, rfl⟩
  have HN := Lib.hid hnn
  have HM : Hid (n = m.length) := Lib.hid (hnn.trans hn)
  rw [← hnn] at hcap hlen
  rw [← hn, ← hnn] at hcap2
  rw [← hn, ← hnn]
  clear hn hnn hlen2
  go_enter Try.func61, Try.ntmps61
  go_wp2
  go_loopw [13] (fun i wr => ∃ k : Nat, i = .int .i64 k ∧ k ≤ n ∧ Hid (∀ j, j < k → subAt l j = subAt m j) ∧ Hid (Below w.heap.size w wr)) (fun i _ => n - (RowKit.intOf i).toNat)
  case atStart => exact ⟨0, rfl, by omega, Lib.hid (fun j hj => by omega), Lib.hid (Below.refl _ _)⟩
  case round =>
    obtain ⟨k, rfl, hkn, HF, HB⟩ := hrel
    by_cases hlt : k < n
    · have hkl : k < l.length := by rw [← HN.out]; exact hlt
      have hkm : k < m.length := by rw [← HM.out]; exact hlt
      obtain ⟨b, o, rfl, hb, hc⟩ := HC.out (by omega)
      obtain ⟨b2, o2, rfl, hb2, hc2⟩ := HC2.out (by omega)
      have c0 : wr.cell? ⟨b, o + k * 2, none⟩ = some (.int .i64 (subAt l k).id) := (HB.out.cell (p := ⟨b, o + k * 2, none⟩) hb).trans (hc k hkl).1
      have c1 : wr.cell? ⟨b, o + k * 2 + 1, none⟩ = some (.int .i64 (subAt l k).bal) := (HB.out.cell (p := ⟨b, o + k * 2 + 1, none⟩) hb).trans (hc k hkl).2
      have d0 : wr.cell? ⟨b2, o2 + k * 2, none⟩ = some (.int .i64 (subAt m k).id) := (HB.out.cell (p := ⟨b2, o2 + k * 2, none⟩) hb2).trans (hc2 k hkm).1
      have d1 : wr.cell? ⟨b2, o2 + k * 2 + 1, none⟩ = some (.int .i64 (subAt m k).bal) := (HB.out.cell (p := ⟨b2, o2 + k * 2 + 1, none⟩) hb2).trans (hc2 k hkm).2
      have hk0 : (0 : Int) ≤ (k : Int) := by omega
      have hk1 : (k : Int) < (n : Int) := by omega
      have HDF : Hid (subAt l k ≠ subAt m k → r = false) := Lib.hid fun hd => by
        rw [HR.out]
        cases hq : sameL l m with
        | false => rfl
        | true => rw [sameL_eq.1 hq] at hd; exact absurd rfl hd
      have HEQ : Hid (subAt l k = subAt m k → ∀ p, p < k + 1 → subAt l p = subAt m p) := Lib.hid fun hd p hp => by
        rcases (by omega : p < k ∨ p = k) with hp | rfl
        · exact HF.out p hp
        · exact hd
      generalize subAt l k = x at *
      generalize subAt m k = y at *
      obtain ⟨x0, x1⟩ := x
      obtain ⟨y0, y1⟩ := y
      simp only at c0 c1 d0 d1
      clear hc hc2 HC HC2
      by_cases heq : x0 = y0 ∧ x1 = y1
      · obtain ⟨rfl, rfl⟩ := heq
        have HF2 := Lib.hid (HEQ.out rfl)
        have hne := fun W => sub_neq_same x0 x1 W
        go_wp2
        go_quiet (fail)
        go_wp2
        go_roundw
        case rel => exact ⟨k + 1, by first | rfl | go_num, by omega, HF2, Lib.hid (below_drewN HB.out _)⟩
        case measure => simp [RowKit.intOf]; omega
      · have hne := fun W => sub_neq_differ x0 x1 y0 y1 heq W
        obtain rfl : r = false := HDF.out (fun e => heq (by injection e with e0 e1; exact ⟨e0, e1⟩))
        clear heq
        go_wp2
        go_quiet (fail)
        go_wp2
        go_ret
        exact ⟨rfl, below_drewN HB.out _⟩
    · obtain rfl : k = n := by omega
      obtain rfl : r = true := HR.out.trans (sameL_eq.2 (subs_eq (HN.out.symm.trans HM.out) (fun p hp => HF.out p (by rw [HM.out]; exact hp))))
      go_wp2
      go_ret
      exact ⟨rfl, HB.out⟩


set_option maxRecDepth 100000 in
set_option maxHeartbeats 4000000 in
theorem acCheck_any (a : Acc) (su en : Value) (w : World) (h : SubsAt w su a.subs) (he : EntsAt w en a.ents) (hlen : a.subs.length ≤ 1000000) (hlen2 : a.ents.length ≤ 1000000) :
    Calls Try.prog 45 #[.agg #[.int .i64 a.credit, su, en]] w fun e w' => e = .returned (.int .i64 (checkM a)) ∧ Below w.heap.size w w' := by
  have HS := Lib.hid h
  have HB0 := Lib.hid (below_alloc w (.cells #[.int .i64 a.credit, su, en] 56))
  have HBX := Lib.hid (heap_alloc_new w (.cells #[.int .i64 a.credit, su, en] 56))
  have HRP : Hid (a.subs.length ≤ 1000 → ∀ W, Below w.heap.size w W → Calls Try.prog 60 #[.agg #[.int .i64 a.credit, su, en]] W (ReplayPost W (replayM a))) := Lib.hid fun hl W hW => acreplay_any a su en W (h.below hW) (he.below hW) hl hlen2
  obtain ⟨aS, cS, rfl, hcS, -⟩ := (subs_list.1 h).shape subF
  obtain ⟨aE, cE, rfl, hcE, -⟩ := (ents_list.1 he).shape entF
  obtain ⟨r, hr⟩ : ∃ r, r = checkM a := ⟨_, rfl⟩
  have HR := Lib.hid (hr.trans (check_replay a))
  rw [← hr]
  obtain ⟨cr, l, es⟩ := a
  simp only at HS HB0 HBX HRP HR hlen hlen2 hcS hcE ⊢
  obtain ⟨n, hn⟩ : ∃ n, n = l.length := ⟨_, rfl⟩
  have HN := Lib.hid hn
  obtain ⟨m, hm⟩ : ∃ m, m = es.length := ⟨_, rfl⟩
  rw [← hn, ← hm] at HB0 HBX HRP HR ⊢
  rw [← hn] at HS hlen hcS
  rw [← hm] at hlen2 hcE
  clear hr h he hn hm
  by_cases h1 : 20 < n
  · obtain rfl : r = 3 := HR.out.trans (if_pos h1)
    have h1' : (20 : Int) < (n : Int) := by omega
    clear HR HRP
    go_enter Try.func45, Try.ntmps45
    go_wp2
    go_ret
    exact ⟨rfl, HB0.out⟩
  have h1' : ¬ (20 : Int) < (n : Int) := by omega
  by_cases h2 : 400 < m
  · obtain rfl : r = 3 := HR.out.trans ((if_neg h1).trans (if_pos h2))
    have h2' : (400 : Int) < (m : Int) := by omega
    clear HR HRP
    go_enter Try.func45, Try.ntmps45
    go_wp2
    go_ret
    exact ⟨rfl, HB0.out⟩
  have h2' : ¬ (400 : Int) < (m : Int) := by omega
  have HR2 := Lib.hid (HR.out.trans ((if_neg h1).trans (if_neg h2)))
  have HRR := Lib.hid (HRP.out (by omega))
  clear HR HRP
  cases hq : replayM ⟨cr, l, es⟩ with
  | none =>
    rw [hq] at HR2 HRR
    obtain rfl : r = 62 := HR2.out
    clear HR2 hq h1 h2
    go_enter Try.func45, Try.ntmps45
    go_wp2_with fail
    refine (HRR.out _ HB0.out).mono ?_
    rintro e w1 ⟨rfl, hb1⟩
    have HB1 := Lib.hid (HB0.out.trans (hb1.mono HB0.out.size))
    clear hb1
    go_wp2
    go_ret
    exact ⟨rfl, HB1.out⟩
  | some q =>
    rw [hq] at HR2 HRR
    obtain ⟨c, hc⟩ : ∃ c, c = sameL q l := ⟨_, rfl⟩
    have HR3 : Hid (r = if c = true then 0 else 62) := Lib.hid (by rw [hc]; exact HR2.out)
    have HEQ : Hid (∀ W v, Below w.heap.size w W → SubsAt W v q → q.length ≤ 1000000 → Calls Try.prog 61 #[v, .slice aS n cS] W fun e w' => e = .returned (.bool c) ∧ Below W.heap.size W w') := Lib.hid fun W v hW hv hl => by
      rw [hc]
      exact EqSub_any v (.slice aS n cS) q l W hv (SubsAt.below HS.out hW) hl (by rw [← HN.out]; exact hlen)
    have HQL : Hid (q.length ≤ 1000000) := Lib.hid (by
      unfold replayM at hq
      split at hq
      · split at hq
        · have := len_of_ids (rep_ids hq)
          rw [this, emptyM_len, ← HN.out]
          exact hlen
        · cases hq
      · cases hq)
    clear HR2 hq h1 h2 hc
    go_enter Try.func45, Try.ntmps45
    go_wp2_with fail
    refine (HRR.out _ HB0.out).mono ?_
    rintro e w1 ⟨v1, rfl, ho1, hb1⟩
    have HB1 := Lib.hid (HB0.out.trans (hb1.mono HB0.out.size))
    have HV1 : Hid (SubsAt w1 v1 q) := Lib.hid (RowG.owns ho1)
    have u1 := obj_cell (obj_below HBX.out hb1) 1
    simp at u1
    clear ho1 hb1
    cases c with
    | true =>
      obtain rfl : r = 0 := HR3.out.trans (if_pos rfl)
      go_wp2_with fail
      refine (HEQ.out _ _ HB1.out HV1.out HQL.out).mono ?_
      rintro e w2 ⟨rfl, hb2⟩
      have HB2 := Lib.hid (HB1.out.trans (hb2.mono HB1.out.size))
      clear hb2
      go_wp2
      go_ret
      exact ⟨rfl, HB2.out⟩
    | false =>
      obtain rfl : r = 62 := HR3.out.trans (if_neg (by decide))
      go_wp2_with fail
      refine (HEQ.out _ _ HB1.out HV1.out HQL.out).mono ?_
      rintro e w2 ⟨rfl, hb2⟩
      have HB2 := Lib.hid (HB1.out.trans (hb2.mono HB1.out.size))
      clear hb2
      go_wp2
      go_ret
      exact ⟨rfl, HB2.out⟩

end Go.Proofs.Ytoelidndnajedab
