/- The walk of LiquidityCosts: interest adds up over days, is 0 without rates, and never falls with the rate of what is raised; for every tape. -/
import Derived.Test.YtoidiofdjokpkabLqI
set_option linter.unusedSimpArgs false
set_option linter.unusedVariables false
namespace Go.Proofs.Ytoidiofdjokpkab
open Go.RowKit Go.Lib Go.Proofs

theorem plansM_in {b : Bnd} (h : BndOk b) : ∀ l : List Pos, ∀ p ∈ plansM b l, 0 ≤ p.raise ∧ p.raise ≤ 1000000000000 ∧ 0 ≤ p.place ∧ p.place ≤ 1000000000000
  | [], p, hp => by simp [plansM] at hp
  | x :: l, p, hp => by
    simp only [plansM, List.mem_append] at hp
    rcases hp with hp | hp
    · unfold planOf at hp
      split at hp
      · rw [List.mem_singleton] at hp
        subst hp
        simp only
        unfold decR decP
        cases hk : okB b x.amt with
        | true =>
          unfold okB at hk
          obtain ⟨h1, h2, _⟩ := enoughB_iff.1 hk
          have := h.mr1
          have := h.mp1
          simp only [if_true]
          omega
        | false => simp
      · simp at hp
    · exact plansM_in h l p hp
theorem plIn_of {b : Bnd} (h : BndOk b) {l : List Pos} (hl : l.length ≤ 8) : PlIn (plansM b l) := ⟨plansM_in h l, by have := plansM_len b l; omega⟩
theorem forDay_zero (a : Int) : forDayI a 0 = 0 := by unfold forDayI; omega
theorem interest_zero : ∀ l : List Pl, interestM 0 0 l = 0
  | [] => rfl
  | p :: l => by simp only [interestM, forDay_zero, interest_zero l]; decide
theorem interest_mono {q1 q2 q : Int} (hq : q1 ≤ q2) : ∀ l : List Pl, (∀ p ∈ l, 0 ≤ p.raise ∧ p.raise ≤ 1000000000000 ∧ 0 ≤ p.place ∧ p.place ≤ 1000000000000) → interestM q1 q l ≤ interestM q2 q l
  | [], _ => by simp [interestM]
  | p :: l, h => by
    have ih := interest_mono (q := q) hq l fun x hx => h x (List.mem_cons_of_mem _ hx)
    obtain ⟨h1, h2, h3, h4⟩ := h p (List.mem_cons_self ..)
    have : 2 * p.raise * q1 ≤ 2 * p.raise * q2 := Int.mul_le_mul_of_nonneg_left hq (by omega)
    simp only [interestM]
    unfold forDayI
    omega

set_option maxHeartbeats 8000000 in
theorem lqcosts_any (v : Value) (n : Nat) (w : World) (hi : IntsAt w v n w.heap.size) (hn : n ≤ 9223372036854775807) :
    Calls Try.prog 6 #[v] w fun e w' => e = .returned (.bool true) ∧ Below w.heap.size w w' := by
  have HNEW := Lib.hid (sNew_any v n w hi hn)
  have HSN := Lib.hid sane30_any
  clear hi hn
  go_enter Try.func6, Try.ntmps6
  go_wp2_with fail
  refine (HNEW.out).mono ?_
  rintro e w1 ⟨rfl, t1, b1⟩
  have HS := Lib.hid (sBand_any w.heap.size w1 t1)
  have B1 := Lib.hid b1
  clear t1 b1 HNEW
  go_wp2_with fail
  refine (HS.out).mono ?_
  rintro e w2 ⟨b, rfl, hok, hlo, hhi, hlt, hmr, hmp, hl4, t2, g2⟩
  have HP := Lib.hid (sPositions_any w.heap.size 8 w2 t2 (by decide))
  have HB2 := Lib.hid (B1.out.grown g2 B1.out.size (by simp))
  clear t2 g2 HS B1 hl4
  go_wp2_with fail
  with_reducible refine Calls.mono (HP.out) ?_
  rintro e w3 ⟨pv, l, rfl, hl8, hpo, hown, hsi⟩
  have HB3 := Lib.hid (HB2.out.grown hsi.old HB2.out.size (by simp))
  have hpi := posIn_of hpo (by decide) (by omega)
  have hla := ListAt.owns hown
  have HX := Lib.hid (show BInv w w3.heap.size b (w3.alloc (.cells b.cells.toArray 26)) from ⟨heap_alloc_new w3 _, HB3.out.alloc HB3.out.size _⟩)
  have HLA := Lib.hid (show ListAt posC 2 (w3.alloc (.cells b.cells.toArray 26)) pv l from hla.below (below_alloc _ _))
  have HPI := Lib.hid hpi
  have HPO := Lib.hid hpo
  have HOK := Lib.hid hok
  have k0 := hok.lo0
  have k1 := hok.le
  clear HP HB2 hown hsi hla hpi hpo hok HB3
  obtain ⟨lo, hi, lt, mr, mp⟩ := b
  simp only [Bnd.cells] at HX HLA hlo hhi hlt hmr hmp k0 k1 ⊢
  have HM := Lib.hid (lqMake_any HOK.out HPI.out pv (w3.alloc (.cells #[.int .i64 lo, .int .i64 hi, .int .i64 lt, .int .i64 mr, .int .i64 mp] 26)) HLA.out)
  have HPLI := Lib.hid (plIn_of HOK.out hl8)
  simp only [Bnd.cells] at HM
  go_wp2_with fail
  with_reducible refine Calls.mono (HM.out) ?_
  rintro e w4 (⟨hall, ⟨u, rfl, hown, b4⟩⟩ | ⟨k, hk, hok, hno, rfl, b4⟩)
  case inr =>
    have HX4 := Lib.hid (HX.out.below b4)
    clear b4 HX HM hok hno
    go_wp2_with (go_at_call 11; refine (HSN.out _).mono ?_; rintro e w6 ⟨rfl, b6⟩)
    go_ret
    exact ⟨rfl, (HX4.out.below b6).old⟩
  have HX4 := Lib.hid (HX.out.below b4)
  have HLP := Lib.hid (ListAt.owns hown)
  clear b4 HX HM hall HLA
  generalize plansM ⟨lo, hi, lt, mr, mp⟩ l = ps at *
  obtain ⟨ao, cap, rfl, hcap, hc⟩ := HLP.out.shape plF
  have hlen := HPLI.out.len
  have HI1 := Lib.hid (fun W (hW : Below w4.heap.size w4 W) => lqInterest_ok HPLI.out (q1 := 3000) (q2 := 1000) (by decide) (by decide) (by decide) (by decide) _ W (HLP.out.below hW))
  have HI2 := Lib.hid (fun W (hW : Below w4.heap.size w4 W) => lqInterest_ok HPLI.out (q1 := 4000) (q2 := 1000) (by decide) (by decide) (by decide) (by decide) _ W (HLP.out.below hW))
  have HI3 := Lib.hid (fun W (hW : Below w4.heap.size w4 W) => lqInterest_ok HPLI.out (q1 := 0) (q2 := 0) (by decide) (by decide) (by decide) (by decide) _ W (HLP.out.below hW))
  have hmono := interest_mono (q1 := 3000) (q2 := 4000) (q := 1000) (by decide) ps HPLI.out.bd
  have HS1 := Lib.hid (fun p (hp : p ∈ ps) W u (hu : ListAt plC 3 W u [p]) => lqInterest_ok (l := [p]) ⟨fun x hx => by rw [List.mem_singleton] at hx; rw [hx]; exact HPLI.out.bd p hp, by simp⟩ (q1 := 3000) (q2 := 1000) (by decide) (by decide) (by decide) (by decide) u W hu)
  have HBD := Lib.hid (fun k => interest_in (q1 := 3000) (q2 := 1000) (by decide) (by decide) (by decide) (by decide) (ps.take k) fun p hp => HPLI.out.bd p (List.mem_of_mem_take hp))
  obtain ⟨m, hm⟩ : ∃ m, m = ps.length := ⟨_, rfl⟩
  have HMM := Lib.hid hm
  have HC := Lib.hid hc
  rw [interest_zero] at HI3
  rw [← hm] at HI1 HI2 HI3 hlen hcap
  obtain ⟨tot, htot⟩ : ∃ tot, tot = interestM 3000 1000 ps := ⟨_, rfl⟩
  have HTOT := Lib.hid htot
  rw [← htot] at HI1 hmono
  generalize interestM 4000 1000 ps = tot2 at *
  clear hm hc htot hown
  rw [← HMM.out]
  go_wp2_with fail
  with_reducible refine Calls.mono (HI1.out _ (Below.refl _ _)) ?_
  rintro e w5 ⟨rfl, b5⟩
  have HB5 := Lib.hid b5
  clear b5 HI1
  go_wp2_with fail
  with_reducible refine Calls.mono (HI2.out _ HB5.out) ?_
  rintro e w6 ⟨rfl, b6⟩
  have HB6 := Lib.hid (HB5.out.trans (b6.mono HB5.out.size))
  clear b6 HI2 HB5
  go_wp2_with fail
  with_reducible refine Calls.mono (HI3.out _ HB6.out) ?_
  rintro e w7 ⟨rfl, b7⟩
  have HB7 := Lib.hid (HB6.out.trans (b7.mono HB6.out.size))
  clear b7 HI3 HB6
  go_wp2
  go_loopw [15, 53] (fun sv iv wr => ∃ (k : Nat) (s : Int), sv = .int .i64 s ∧ iv = .int .i64 k ∧ k ≤ m ∧ Hid (s = interestM 3000 1000 (ps.take k)) ∧ Hid (Below w4.heap.size w4 wr)) (fun _ iv _ => m - (RowKit.intOf iv).toNat)
  case atStart => exact ⟨0, 0, rfl, rfl, by omega, Lib.hid (by simp [interestM]), HB7⟩
  case round =>
    obtain ⟨k, s, rfl, rfl, hkm, HS, HB⟩ := hrel
    have hin := HBD.out k
    have htl : (ps.take k).length ≤ k := by simp; omega
    rw [← HS.out] at hin
    have s0 : -600000000000 ≤ s := by omega
    have s1 : s ≤ 600000000000 := by omega
    clear hin htl
    by_cases hlt : k < m
    · have hlx : k < ps.length := by rw [← HMM.out]; exact hlt
      obtain ⟨b, o, rfl, hb, hcc⟩ := HC.out (by omega)
      have hcell := fun j (hj : j < 3) => (HB.out.cell (p := ⟨b, o + k * 3 + j, none⟩) hb).trans (hcc k hlx j hj)
      have hone := fun W u (hu : ListAt plC 3 W u [ps[k]]) => HS1.out ps[k] (List.getElem_mem hlx) W u hu
      have hbk := interest_in (q1 := 3000) (q2 := 1000) (by decide) (by decide) (by decide) (by decide) [ps[k]] (fun p hp => by rw [List.mem_singleton] at hp; rw [hp]; exact HPLI.out.bd _ (List.getElem_mem hlx))
      have htk : interestM 3000 1000 (ps.take (k + 1)) = interestM 3000 1000 (ps.take k) + interestM 3000 1000 [ps[k]] := by rw [List.take_succ_eq_append_getElem hlx, interest_snoc]; simp [interestM]
      generalize ps[k] = x at *
      have HONE := Lib.hid hone
      obtain ⟨d, r, p⟩ := x
      have c0 := hcell 0 (by omega)
      have c1 := hcell 1 (by omega)
      have c2 := hcell 2 (by omega)
      simp [plC] at c0 c1 c2
      have HTK := Lib.hid htk
      generalize interestM 3000 1000 [(⟨d, r, p⟩ : Pl)] = f at *
      have f0 : -600000000 ≤ f := by simp at hbk; omega
      have f1 : f ≤ 600000000 := by simp at hbk; omega
      have hk0 : (0 : Int) ≤ (k : Int) := by omega
      have hk1 : (k : Int) < (m : Int) := by omega
      have HW1 := Lib.hid ((HB.out.alloc HB.out.size (.cells #[.int .i64 d, .int .i64 r, .int .i64 p] 46)).alloc (by have := HB.out.size; simp; omega) (.cells #[.int .i64 d, .int .i64 r, .int .i64 p] 46))
      have HLN : Hid (∀ cap, 1 ≤ cap → ListAt plC 3 ((wr.alloc (.cells #[.int .i64 d, .int .i64 r, .int .i64 p] 46)).alloc (.cells #[.int .i64 d, .int .i64 r, .int .i64 p] 46)) (.slice (some ⟨wr.heap.size + 1, 0, none⟩) 1 cap) [⟨d, r, p⟩]) := Lib.hid fun cap hcap => by
        have h1 := alloc2_at wr (.cells #[.int .i64 d, .int .i64 r, .int .i64 p] 46) (.cells #[.int .i64 d, .int .i64 r, .int .i64 p] 46)
        refine ⟨rfl, _, cap, rfl, hcap, Or.inr ⟨wr.heap.size + 1, 0, rfl, by simp, fun j hj => ?_⟩⟩
        rw [Nat.zero_add, obj_cell h1 j]
        simp [cellsL, plC]
      clear hcell hcc HC hone htk hbk HBD HS1
      go_wp2_with fail
      with_reducible refine Calls.mono (HONE.out _ _ (HLN.out _ (by decide))) ?_
      rintro e w8 ⟨rfl, b8⟩
      have HB8 := Lib.hid (HW1.out.trans (b8.mono HW1.out.size))
      clear b8 HW1 HLN HONE
      go_wp2
      go_roundw
      case rel => exact ⟨k + 1, s + f, by first | rfl | go_num, by first | rfl | go_num, by omega, Lib.hid (by rw [HTK.out, HS.out]), HB8⟩
      case measure => simp [RowKit.intOf]; omega
    · obtain rfl : k = m := by omega
      have hall : ps.take k = ps := by rw [HMM.out]; exact List.take_length
      have HS2 := HS
      rw [hall, ← HTOT.out] at HS2
      obtain rfl := HS2.out
      clear HC HBD HS1
      go_wp2_with (go_at_call 11; refine (HSN.out _).mono ?_; rintro e w6 ⟨rfl, b6⟩)
      go_ret
      exact ⟨rfl, HX4.out.old.trans ((HB.out.trans (b6.mono HB.out.size)).mono HX4.out.old.size)⟩

end Go.Proofs.Ytoidiofdjokpkab
