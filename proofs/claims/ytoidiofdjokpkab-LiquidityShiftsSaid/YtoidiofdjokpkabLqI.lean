/- Contracts of package liquidity's Interest, and of the reference's comparison of plans. -/
import Derived.Test.YtoidiofdjokpkabSfPl
import Derived.Test.YtoidiofdjokpkabLqN
import Derived.Laws.StructEq
set_option linter.unusedSimpArgs false
set_option linter.unusedVariables false
namespace Go.Proofs.Ytoidiofdjokpkab
open Go.RowKit Go.Lib Go.Proofs

theorem plan_neq_same (x y z : Int) (W : World) : (binOp .neq 46 (.agg #[.int .i64 x, .int .i64 y, .int .i64 z]) (.agg #[.int .i64 x, .int .i64 y, .int .i64 z])).run Try.prog W = .ok (.bool false) W := by
  rw [run_neq_struct]
  simp [go_sem]

set_option maxHeartbeats 4000000 in
theorem r30Plans_same (ps : List Pl) (hlen : ps.length ≤ 1000000) (u v : Value) (w : World) (hu : ListAt plC 3 w u ps) (hv : ListAt plC 3 w v ps) :
    Calls Try.prog 14 #[u, v] w fun e w' => e = .returned (.bool true) ∧ Below w.heap.size w w' := by
  obtain ⟨ao, cap, rfl, hcap, hc⟩ := hu.shape plF
  obtain ⟨ao2, cap2, rfl, hcap2, hc2⟩ := hv.shape plF
  obtain ⟨n, hn⟩ : ∃ n, n = ps.length := ⟨_, rfl⟩
  have HN := Lib.hid hn
  have HC := Lib.hid hc
  have HC2 := Lib.hid hc2
  rw [← hn] at hlen hcap hcap2 ⊢
  clear hn hu hv hc hc2
  go_enter Try.func14, Try.ntmps14
  go_wp2
  go_loopw [13] (fun i wr => ∃ k : Nat, i = .int .i64 k ∧ k ≤ n ∧ Hid (Below w.heap.size w wr)) (fun i _ => n - (RowKit.intOf i).toNat)
  case atStart => exact ⟨0, rfl, by omega, Lib.hid (Below.refl _ _)⟩
  case round =>
    obtain ⟨k, rfl, hkn, HB⟩ := hrel
    by_cases hlt : k < n
    · have hlx : k < ps.length := by rw [← HN.out]; exact hlt
      obtain ⟨b, o, rfl, hb, hcc⟩ := HC.out (by omega)
      obtain ⟨b2, o2, rfl, hb2, hcc2⟩ := HC2.out (by omega)
      have hcell := fun j (hj : j < 3) => (HB.out.cell (p := ⟨b, o + k * 3 + j, none⟩) hb).trans (hcc k hlx j hj)
      have hcell2 := fun j (hj : j < 3) => (HB.out.cell (p := ⟨b2, o2 + k * 3 + j, none⟩) hb2).trans (hcc2 k hlx j hj)
      generalize ps[k] = x at *
      obtain ⟨d, r, p⟩ := x
      have c0 := hcell 0 (by omega)
      have c1 := hcell 1 (by omega)
      have c2 := hcell 2 (by omega)
      have e0 := hcell2 0 (by omega)
      have e1 := hcell2 1 (by omega)
      have e2 := hcell2 2 (by omega)
      simp [plC] at c0 c1 c2 e0 e1 e2
      have hk0 : (0 : Int) ≤ (k : Int) := by omega
      have hk1 : (k : Int) < (n : Int) := by omega
      have hne := plan_neq_same d r p
      have HB2 : Hid (∀ q, Below w.heap.size w (wr.drewN q)) := Lib.hid fun q => below_drewN HB.out q
      clear hcell hcell2 hcc hcc2 HC HC2
      go_wp2
      go_quiet (fail)
      go_wp2
      go_roundw
      case rel => exact ⟨k + 1, by first | rfl | go_num, by omega, Lib.hid (HB2.out _)⟩
      case measure => simp [RowKit.intOf]; omega
    · obtain rfl : k = n := by omega
      clear HC HC2
      go_wp2
      go_ret
      exact ⟨rfl, HB.out⟩

/-- The interest on an amount for a day. -/
def forDayI (a q : Int) : Int := (2 * a * q + 36000000) / 72000000
def interestM (q1 q2 : Int) : List Pl → Int
  | [] => 0
  | p :: l => forDayI p.raise q1 - forDayI p.place q2 + interestM q1 q2 l
structure PlIn (l : List Pl) : Prop where
  bd : ∀ p ∈ l, 0 ≤ p.raise ∧ p.raise ≤ 1000000000000 ∧ 0 ≤ p.place ∧ p.place ≤ 1000000000000
  len : l.length ≤ 1000

theorem forDay_in {a q : Int} (a0 : 0 ≤ a) (a1 : a ≤ 1000000000000) (q0 : 0 ≤ q) (q1 : q ≤ 20000) : 0 ≤ 2 * a * q ∧ 2 * a * q ≤ 40000000000000000 ∧ 0 ≤ forDayI a q ∧ forDayI a q ≤ 600000000 := by
  have h0 : 0 ≤ 2 * a * q := Int.mul_nonneg (by omega) q0
  have h1 : 2 * a * q ≤ 2000000000000 * 20000 := Int.mul_le_mul (by omega) q1 q0 (by decide)
  unfold forDayI
  omega
theorem interest_snoc (q1 q2 : Int) (p : Pl) : ∀ l, interestM q1 q2 (l ++ [p]) = interestM q1 q2 l + (forDayI p.raise q1 - forDayI p.place q2)
  | [] => by simp [interestM]
  | x :: l => by simp only [List.cons_append, interestM, interest_snoc q1 q2 p l]; omega
theorem interest_in {q1 q2 : Int} (a0 : 0 ≤ q1) (a1 : q1 ≤ 20000) (b0 : 0 ≤ q2) (b1 : q2 ≤ 20000) : ∀ l : List Pl, (∀ p ∈ l, 0 ≤ p.raise ∧ p.raise ≤ 1000000000000 ∧ 0 ≤ p.place ∧ p.place ≤ 1000000000000) → -600000000 * (l.length : Int) ≤ interestM q1 q2 l ∧ interestM q1 q2 l ≤ 600000000 * (l.length : Int)
  | [], _ => by simp [interestM]
  | p :: l, h => by
    have ih := interest_in a0 a1 b0 b1 l fun x hx => h x (List.mem_cons_of_mem _ hx)
    obtain ⟨h1, h2, h3, h4⟩ := h p (List.mem_cons_self ..)
    have g1 := forDay_in h1 h2 a0 a1
    have g2 := forDay_in h3 h4 b0 b1
    simp only [interestM, List.length_cons]
    omega

set_option maxHeartbeats 400000 in
theorem lqforDay_ok {a q : Int} (a0 : 0 ≤ a) (a1 : a ≤ 1000000000000) (q0 : 0 ≤ q) (q1 : q ≤ 20000) (w : World) : Calls Try.prog 26 #[.int .i64 a, .int .i64 q] w fun e w' => e = .returned (.int .i64 (forDayI a q)) ∧ w = w' := by
  obtain ⟨h0, h1, h2, h3⟩ := forDay_in a0 a1 q0 q1
  unfold forDayI at *
  have h4 : 0 ≤ 2 * a * q + 36000000 := by omega
  go_enter Try.func26, Try.ntmps26
  go_wp2
  go_ret
  exact ⟨rfl, rfl⟩

set_option maxHeartbeats 400000 in
theorem lqisRate_ok {q : Int} (q0 : 0 ≤ q) (q1 : q ≤ 20000) (w : World) : Calls Try.prog 25 #[.int .i64 q] w fun e w' => e = .returned (.bool true) ∧ w = w' := by
  go_enter Try.func25, Try.ntmps25
  go_wp2_with (go_at_call 30; refine (lqwithin_yes _ (by omega) (by omega)).mono ?_; rintro e w' ⟨rfl, rfl⟩)
  go_ret
  exact ⟨rfl, rfl⟩

set_option maxHeartbeats 1000000 in
theorem lqamountsC_ok (d : Int) {r p : Int} (r0 : 0 ≤ r) (r1 : r ≤ 1000000000000) (p0 : 0 ≤ p) (p1 : p ≤ 1000000000000) (w : World) : Calls Try.prog 36 #[.agg #[.int .i64 d, .int .i64 r, .int .i64 p]] w fun e w' => e = .returned (.bool false) ∧ Below w.heap.size w w' := by
  go_enter Try.func36, Try.ntmps36
  go_wp2_with (go_at_call 28; refine (Valid_yes _ (by omega) (by omega)).mono ?_; rintro e w' ⟨rfl, rfl⟩)
  go_ret
  exact ⟨rfl, below_alloc w _⟩

set_option maxHeartbeats 400000 in
theorem lqamounts_ok {l : List Pl} (h : PlIn l) (v : Value) (w : World) (hv : ListAt plC 3 w v l) : Calls Try.prog 24 #[v] w fun e w' => e = .returned (.bool true) ∧ Below w.heap.size w w' := by
  have HC := Lib.hid (plContains_any 36 #[] (enters_of Try.func36 (by kernel_rfl) rfl) (fun _ => false) l v w hv (by have := h.len; omega) fun x hx W _ => by
    obtain ⟨h1, h2, h3, h4⟩ := h.bd x hx
    have := lqamountsC_ok x.day h1 h2 h3 h4 W
    simpa [plC] using this)
  rw [show (l.any fun _ => false) = false from List.any_eq_false.2 fun x hx => by simp] at HC
  clear h hv
  go_enter Try.func24, Try.ntmps24
  go_wp2_with fail
  refine (HC.out).mono ?_
  rintro e w1 ⟨rfl, hb⟩
  go_wp2
  go_ret
  exact ⟨rfl, hb⟩

set_option maxHeartbeats 8000000 in
theorem lqInterest_ok {l : List Pl} (h : PlIn l) {q1 q2 : Int} (a0 : 0 ≤ q1) (a1 : q1 ≤ 20000) (b0 : 0 ≤ q2) (b1 : q2 ≤ 20000) (v : Value) (w : World) (hv : ListAt plC 3 w v l) :
    Calls Try.prog 15 #[v, .int .i64 q1, .int .i64 q2] w fun e w' => e = .returned (.tuple #[.int .i64 (interestM q1 q2 l), .int .i64 0]) ∧ Below w.heap.size w w' := by
  have HA := Lib.hid (lqamounts_ok h v w hv)
  have HQ1 := Lib.hid (fun W => lqisRate_ok a0 a1 W)
  have HQ2 := Lib.hid (fun W => lqisRate_ok b0 b1 W)
  have HBD := Lib.hid h.bd
  have HIN := Lib.hid (fun k => interest_in a0 a1 b0 b1 (l.take k) fun p hp => h.bd p (List.mem_of_mem_take hp))
  obtain ⟨ao, cap, rfl, hcap, hc⟩ := hv.shape plF
  have hlen := h.len
  obtain ⟨n, hn⟩ : ∃ n, n = l.length := ⟨_, rfl⟩
  have HN := Lib.hid hn
  have HC := Lib.hid hc
  obtain ⟨res, hres⟩ : ∃ res, res = interestM q1 q2 l := ⟨_, rfl⟩
  have HRES := Lib.hid hres
  rw [← hres]
  rw [← hn] at HA hlen hcap ⊢
  clear h hv hc hn hres
  have hnl : ¬ (1000 : Int) < (n : Int) := by omega
  go_enter Try.func15, Try.ntmps15
  go_wp2_with fail
  with_reducible refine (HA.out).mono ?_
  rintro e w1 ⟨rfl, b1⟩
  have HB1 := Lib.hid b1
  clear b1 HA
  go_wp2_with (go_at_call 25; (first | with_reducible refine Calls.mono (HQ1.out _) ?_ | with_reducible refine Calls.mono (HQ2.out _) ?_); rintro e w' ⟨rfl, rfl⟩)
  go_loopw [8, 29] (fun sv iv wr => ∃ (k : Nat) (s : Int), sv = .int .i64 s ∧ iv = .int .i64 k ∧ k ≤ n ∧ Hid (s = interestM q1 q2 (l.take k)) ∧ Hid (Below w.heap.size w wr)) (fun _ iv _ => n - (RowKit.intOf iv).toNat)
  case atStart => exact ⟨0, 0, rfl, rfl, by omega, Lib.hid (by simp [interestM]), HB1⟩
  case round =>
    obtain ⟨k, s, rfl, rfl, hkn, HS, HB⟩ := hrel
    have hin := HIN.out k
    have htl : (l.take k).length ≤ k := by simp; omega
    rw [← HS.out] at hin
    have s0 : -600000000000 ≤ s := by omega
    have s1 : s ≤ 600000000000 := by omega
    clear hin htl
    by_cases hlt : k < n
    · have hlx : k < l.length := by rw [← HN.out]; exact hlt
      obtain ⟨b, o, rfl, hb, hcc⟩ := HC.out (by omega)
      have hcell := fun j (hj : j < 3) => (HB.out.cell (p := ⟨b, o + k * 3 + j, none⟩) hb).trans (hcc k hlx j hj)
      obtain ⟨r0, r1, p0, p1⟩ := HBD.out l[k] (List.getElem_mem hlx)
      have htk : interestM q1 q2 (l.take (k + 1)) = interestM q1 q2 (l.take k) + (forDayI l[k].raise q1 - forDayI l[k].place q2) := by rw [List.take_succ_eq_append_getElem hlx, interest_snoc]
      generalize l[k] = x at *
      obtain ⟨d, r, p⟩ := x
      simp only at r0 r1 p0 p1 htk
      have c0 := hcell 0 (by omega)
      have c1 := hcell 1 (by omega)
      have c2 := hcell 2 (by omega)
      simp [plC] at c0 c1 c2
      have HF1 := Lib.hid (fun W => lqforDay_ok r0 r1 a0 a1 W)
      have HF2 := Lib.hid (fun W => lqforDay_ok p0 p1 b0 b1 W)
      obtain ⟨_, _, f0, f1⟩ := forDay_in r0 r1 a0 a1
      obtain ⟨_, _, g0, g1⟩ := forDay_in p0 p1 b0 b1
      have HTK := Lib.hid htk
      generalize forDayI r q1 = f at *
      generalize forDayI p q2 = g at *
      have hk0 : (0 : Int) ≤ (k : Int) := by omega
      have hk1 : (k : Int) < (n : Int) := by omega
      have HB2 : Hid (∀ q, Below w.heap.size w ((wr.alloc (.cells #[.int .i64 d, .int .i64 r, .int .i64 p] 46)).drewN q)) := Lib.hid fun q => below_drewN (HB.out.alloc HB.out.size _) q
      clear hcell hcc HC htk HBD HIN
      go_wp2
      go_quiet (first | (go_at_call 26; with_reducible exact Calls.quiet_of_same ((HF1.out _).mono fun e w' h => ⟨h.1, h.2.symm⟩)) | (go_at_call 26; with_reducible exact Calls.quiet_of_same ((HF2.out _).mono fun e w' h => ⟨h.1, h.2.symm⟩)))
      go_wp2
      go_roundw
      case rel => exact ⟨k + 1, s + (f - g), by first | rfl | go_num, by first | rfl | go_num, by omega, Lib.hid (by rw [HTK.out, HS.out]), Lib.hid (HB2.out _)⟩
      case measure => simp [RowKit.intOf]; omega
    · obtain rfl : k = n := by omega
      have hall : l.take k = l := by rw [HN.out]; exact List.take_length
      have HS2 := HS
      rw [hall, ← HRES.out] at HS2
      obtain rfl := HS2.out
      clear HC HBD HIN
      go_wp2
      go_ret2
      exact ⟨rfl, HB.out⟩

end Go.Proofs.Ytoidiofdjokpkab
