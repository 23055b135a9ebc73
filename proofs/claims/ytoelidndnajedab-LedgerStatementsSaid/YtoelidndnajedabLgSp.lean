/- The results of two spans that follow each other add up, and the worth of the second one is what the first one ends with: for every tape. -/
import Derived.Test.YtoelidndnajedabLgV
import Derived.Test.YtoelidndnajedabLgU
import Derived.Test.YtoelidndnajedabLgH
set_option linter.unusedSimpArgs false
set_option linter.unusedVariables false
namespace Go.Proofs.Ytoelidndnajedab
open Go.RowKit Go.Lib Go.Proofs Go.Maps

theorem clsM_split {e c m x : Int} (h0 : 0 ≤ m) (h1 : m < x) : ∀ {l : List Pst}, clsM e (amidDay 0 m) c l + clsM e (amidDay (m + 1) x) c l = clsM e (amidDay 0 x) c l
  | [] => rfl
  | p :: l => by
    have ih := clsM_split (e := e) (c := c) h0 h1 (l := l)
    simp only [clsM]
    have hd : (hitE e p && amidDay 0 x p.day) = ((hitE e p && amidDay 0 m p.day) || (hitE e p && amidDay (m + 1) x p.day)) ∧ ((hitE e p && amidDay 0 m p.day) && (hitE e p && amidDay (m + 1) x p.day)) = false := by
      unfold amidDay
      cases hitE e p with
      | false => simp
      | true =>
        simp only [Bool.true_and]
        by_cases q1 : 0 ≤ p.day <;> by_cases q2 : p.day ≤ m <;> by_cases q3 : m + 1 ≤ p.day <;> by_cases q4 : p.day ≤ x <;> simp [q1, q2, q3, q4] <;> omega
    rw [hd.1]
    have h2 := hd.2
    cases hA : (hitE e p && amidDay 0 m p.day) <;> cases hB : (hitE e p && amidDay (m + 1) x p.day) <;> rw [hA, hB] at h2 <;> simp_all <;> omega
theorem cnetP_zero {p : Pst} (h : PstOk p) : cnetP 1 p + cnetP 2 p + cnetP 3 p + cnetP 4 p + cnetP 5 p = 0 := by
  have h1 := classM_pos h.deb
  have h2 := classM_pos h.crd
  unfold cnetP
  generalize classM p.deb = a at *
  generalize classM p.crd = b at *
  have ha : a = 1 ∨ a = 2 ∨ a = 3 ∨ a = 4 ∨ a = 5 := by omega
  have hb : b = 1 ∨ b = 2 ∨ b = 3 ∨ b = 4 ∨ b = 5 := by omega
  rcases ha with rfl | rfl | rfl | rfl | rfl <;> rcases hb with rfl | rfl | rfl | rfl | rfl <;> simp <;> omega
theorem clsM_zero {e : Int} {f : Int → Bool} : ∀ {l : List Pst}, (∀ p ∈ l, PstOk p) → clsM e f 1 l + clsM e f 2 l + clsM e f 3 l + clsM e f 4 l + clsM e f 5 l = 0
  | [], _ => rfl
  | p :: l, h => by
    have ih := clsM_zero (e := e) (f := f) (l := l) fun q hq => h q (List.mem_cons_of_mem _ hq)
    have h0 := cnetP_zero (h p List.mem_cons_self)
    simp only [clsM]
    split <;> omega
theorem ereDay_next (m : Int) : ereDay (m + 1) = byDay m := by
  funext d
  by_cases h : d ≤ m
  · rw [show ereDay (m + 1) d = true from decide_eq_true (by omega), show byDay m d = true from decide_eq_true h]
  · rw [show ereDay (m + 1) d = false from decide_eq_false (by omega), show byDay m d = false from decide_eq_false h]

set_option maxRecDepth 100000 in
set_option maxHeartbeats 16000000 in
theorem lgspans_any (v : Value) (n : Nat) (a b : Int) (w : World) (hi : IntsAt w v n w.heap.size) (hn : n ≤ 9223372036854775807) (ha : 0 ≤ a) (ha1 : a ≤ 65535) (hb : 0 ≤ b) (hb1 : b ≤ 65535) :
    Calls Try.prog 4 #[v, .int .u16 a, .int .u16 b] w fun e w' => e = .returned (.bool true) ∧ Below w.heap.size w w' := by
  have HNEW := Lib.hid (sNew_any v n w hi hn)
  have HSN := Lib.hid sane40_true
  clear hi hn
  go_enter Try.func4, Try.ntmps4
  go_wp2_with fail
  refine (HNEW.out).mono ?_
  rintro e w1 ⟨rfl, t1, b1⟩
  obtain ⟨tb, htb⟩ : ∃ tb, tb = w.heap.size := ⟨_, rfl⟩
  rw [← htb] at t1 ⊢
  have HLG := Lib.hid (sLedger_any tb 12 2 800 w1 t1 (by omega) (by omega) (by omega))
  have HW1 := Lib.hid b1
  have HTB := Lib.hid htb
  clear t1 b1 HNEW htb
  go_wp2_with fail
  refine (HLG.out).mono ?_
  rintro e w2 ⟨l, lv, rfl, hin, -, hl, hsi⟩
  have HB2 := Lib.hid ((HW1.out).grown hsi.old HW1.out.size (fun q e => by injection e with e; rw [← e, ← HTB.out]; exact Nat.le_refl _))
  obtain ⟨av, cv, rfl, -, -⟩ := PstsAt.open hl
  have hok := hin.ok
  obtain ⟨m, hm⟩ : ∃ m, a.tmod 600 = m := ⟨_, rfl⟩
  have hm0 : 0 ≤ m := by rw [← hm]; exact Int.tmod_nonneg _ ha
  have hm1 : m < 600 := by rw [← hm]; exact Int.tmod_lt_of_pos _ (by omega)
  obtain ⟨r, hr⟩ : ∃ r, b.tmod 300 = r := ⟨_, rfl⟩
  have hr0 : 0 ≤ r := by rw [← hr]; exact Int.tmod_nonneg _ hb
  have hr1 : r < 300 := by rw [← hr]; exact Int.tmod_lt_of_pos _ (by omega)
  have hwa : IntKind.i64.wrap a = a := IntWalk.i64_in _ (by omega)
  have hwb : IntKind.i64.wrap b = b := IntWalk.i64_in _ (by omega)
  have hwm : IntKind.i64.wrap m = m := IntWalk.i64_in _ (by omega)
  have hwr : IntKind.i64.wrap r = r := IntWalk.i64_in _ (by omega)
  have hwm1 : IntKind.i64.wrap (m + 1) = m + 1 := IntWalk.i64_in _ (by omega)
  have hwx : IntKind.i64.wrap (m + 1 + r) = m + 1 + r := IntWalk.i64_in _ (by omega)
  obtain ⟨nl, hnl⟩ : ∃ k, k = l.length := ⟨_, rfl⟩
  rw [← hnl]
  rw [← hnl] at hl
  have HLV := Lib.hid hl
  have hS1 := fun W (hW : Below w2.heap.size w2 W) => lgStatement_right hok 1 0 m (.slice av nl cv) W (ListAt.below hl hW) (by omega) (by omega) (by omega)
  have hS2 := fun W (hW : Below w2.heap.size w2 W) => lgStatement_right hok 1 (m + 1) (m + 1 + r) (.slice av nl cv) W (ListAt.below hl hW) (by omega) (by omega) (by omega)
  have hS3 := fun W (hW : Below w2.heap.size w2 W) => lgStatement_right hok 1 0 (m + 1 + r) (.slice av nl cv) W (ListAt.below hl hW) (by omega) (by omega) (by omega)
  have k4 := clsM_split (e := 1) (c := 4) (m := m) (x := m + 1 + r) hm0 (by omega) (l := l)
  have k5 := clsM_split (e := 1) (c := 5) (m := m) (x := m + 1 + r) hm0 (by omega) (l := l)
  have kz := clsM_zero (e := 1) (f := byDay m) hok.mem
  rw [ereDay_next] at hS2
  have z1 := clsM_small hok 1 (byDay m) 1
  have z2 := clsM_small hok 1 (byDay m) 2
  have z3 := clsM_small hok 1 (amidDay 0 m) 4
  have z4 := clsM_small hok 1 (amidDay (m + 1) (m + 1 + r)) 4
  have z5 := clsM_small hok 1 (amidDay 0 m) 5
  have z6 := clsM_small hok 1 (amidDay (m + 1) (m + 1 + r)) 5
  obtain ⟨A1, hA1⟩ : ∃ x, x = clsM 1 (byDay m) 1 l := ⟨_, rfl⟩
  obtain ⟨L1, hL1⟩ : ∃ x, x = -clsM 1 (byDay m) 2 l := ⟨_, rfl⟩
  obtain ⟨W1, hW1⟩ : ∃ x, x = -clsM 1 (ereDay 0) 3 l - clsM 1 (ereDay 0) 4 l - clsM 1 (ereDay 0) 5 l := ⟨_, rfl⟩
  obtain ⟨R1, hR1⟩ : ∃ x, x = -clsM 1 (amidDay 0 m) 4 l := ⟨_, rfl⟩
  obtain ⟨E1, hE1⟩ : ∃ x, x = clsM 1 (amidDay 0 m) 5 l := ⟨_, rfl⟩
  obtain ⟨A2, hA2⟩ : ∃ x, x = clsM 1 (byDay (m + 1 + r)) 1 l := ⟨_, rfl⟩
  obtain ⟨L2, hL2⟩ : ∃ x, x = -clsM 1 (byDay (m + 1 + r)) 2 l := ⟨_, rfl⟩
  obtain ⟨W2, hW2⟩ : ∃ x, x = -clsM 1 (byDay m) 3 l - clsM 1 (byDay m) 4 l - clsM 1 (byDay m) 5 l := ⟨_, rfl⟩
  obtain ⟨R2, hR2⟩ : ∃ x, x = -clsM 1 (amidDay (m + 1) (m + 1 + r)) 4 l := ⟨_, rfl⟩
  obtain ⟨E2, hE2⟩ : ∃ x, x = clsM 1 (amidDay (m + 1) (m + 1 + r)) 5 l := ⟨_, rfl⟩
  obtain ⟨L3, hL3⟩ : ∃ x, x = -clsM 1 (byDay (m + 1 + r)) 2 l := ⟨_, rfl⟩
  obtain ⟨R3, hR3⟩ : ∃ x, x = -clsM 1 (amidDay 0 (m + 1 + r)) 4 l := ⟨_, rfl⟩
  obtain ⟨E3, hE3⟩ : ∃ x, x = clsM 1 (amidDay 0 (m + 1 + r)) 5 l := ⟨_, rfl⟩
  have hq1 : IntKind.i64.wrap (R1 + R2) = R3 := by
    rw [show R1 + R2 = R3 by omega]; exact IntWalk.i64_in _ (by omega)
  have hq2 : IntKind.i64.wrap (E1 + E2) = E3 := by
    rw [show E1 + E2 = E3 by omega]; exact IntWalk.i64_in _ (by omega)
  have hq3 : IntKind.i64.wrap (A1 - L1) = W2 := by
    rw [show A1 - L1 = W2 by omega]; exact IntWalk.i64_in _ (by omega)
  rw [← hA1, ← hL1, ← hW1, ← hR1, ← hE1] at hS1
  rw [← hA2, ← hL2, ← hW2, ← hR2, ← hE2] at hS2
  rw [← hA2, ← hL3, ← hW1, ← hR3, ← hE3] at hS3
  have HS1 := Lib.hid hS1
  have HS2 := Lib.hid hS2
  have HS3 := Lib.hid hS3
  obtain ⟨w3, hw3⟩ : ∃ w3, w3 = w2.alloc (.cells #[.slice av nl cv] 28) := ⟨_, rfl⟩
  have HX3 : Hid (w3.heap[w2.heap.size]? = some (.cells #[.slice av nl cv] 28 (0, 0))) := Lib.hid (by rw [hw3]; exact heap_alloc_new _ _)
  have HD3 : Hid (Below w2.heap.size w2 w3) := Lib.hid (by rw [hw3]; exact below_alloc _ _)
  have HW3 := Lib.hid hw3
  clear hS1 hS2 hS3 hw3 hl hsi hin hok hnl k4 k5 kz z1 z2 z3 z4 z5 z6 hA1 hL1 hW1 hR1 hE1 hA2 hL2 hW2 hR2 hE2 hL3 hR3 hE3 HLG ha hb
  go_upto_region 3 with fail
  rw [← HW3.out]
  have hx := HX3.out
  have u0 := obj_cell hx 0
  simp at u0
  obtain ⟨bL, hbL⟩ : ∃ x, x = w2.heap.size := ⟨_, rfl⟩
  rw [← hbL] at HX3 u0 ⊢
  have HBL := Lib.hid hbL
  clear hx hbL
  go_wp2_with fail
  refine (HS1.out _ HD3.out).mono ?_
  rintro e w4 ⟨rfl, hb1⟩
  have HDw4 := Lib.hid (HD3.out.trans (hb1.mono HD3.out.size))
  have HN1 := Lib.hid (heap_alloc_new w4 (.cells #[.int .i64 A1, .int .i64 L1, .int .i64 W1, .int .i64 R1, .int .i64 E1] 45))
  obtain ⟨w5, hw5⟩ : ∃ x, x = w4.alloc (.cells #[.int .i64 A1, .int .i64 L1, .int .i64 W1, .int .i64 R1, .int .i64 E1] 45) := ⟨_, rfl⟩
  rw [← hw5] at HN1
  have HDw5 : Hid (Below w2.heap.size w2 w5) := Lib.hid (by rw [hw5]; exact HDw4.out.alloc HDw4.out.size _)
  have HLX1 : Hid (w5.heap[bL]? = some (.cells #[.slice av nl cv] 28 (0, 0))) := Lib.hid (by rw [hw5]; exact obj_below (obj_below HX3.out hb1) (below_alloc _ _))
  have HE1 := Lib.hid hw5
  clear hb1 hw5 u0
  go_upto_region 6 with fail
  rw [← HE1.out]
  obtain ⟨bS1, hbS⟩ : ∃ x, x = w4.heap.size := ⟨_, rfl⟩
  rw [← hbS] at HN1 ⊢
  clear hbS
  have hx := HLX1.out
  have u0 := obj_cell hx 0
  simp at u0
  clear hx
  go_wp2_with fail
  refine (HS2.out _ HDw5.out).mono ?_
  rintro e w6 ⟨rfl, hb2⟩
  have HDw6 := Lib.hid (HDw5.out.trans (hb2.mono HDw5.out.size))
  have HN2 := Lib.hid (heap_alloc_new w6 (.cells #[.int .i64 A2, .int .i64 L2, .int .i64 W2, .int .i64 R2, .int .i64 E2] 45))
  obtain ⟨w7, hw7⟩ : ∃ x, x = w6.alloc (.cells #[.int .i64 A2, .int .i64 L2, .int .i64 W2, .int .i64 R2, .int .i64 E2] 45) := ⟨_, rfl⟩
  rw [← hw7] at HN2
  have HDw7 : Hid (Below w2.heap.size w2 w7) := Lib.hid (by rw [hw7]; exact HDw6.out.alloc HDw6.out.size _)
  have HLX2 : Hid (w7.heap[bL]? = some (.cells #[.slice av nl cv] 28 (0, 0))) := Lib.hid (by rw [hw7]; exact obj_below (obj_below HLX1.out hb2) (below_alloc _ _))
  have HM1_2 : Hid (w7.heap[bS1]? = some (.cells #[.int .i64 A1, .int .i64 L1, .int .i64 W1, .int .i64 R1, .int .i64 E1] 45 (0, 0))) := Lib.hid (by rw [hw7]; exact obj_below (obj_below HN1.out hb2) (below_alloc _ _))
  have HE2 := Lib.hid hw7
  clear hb2 hw7 u0
  go_upto_region 7 with fail
  rw [← HE2.out]
  obtain ⟨bS2, hbS⟩ : ∃ x, x = w6.heap.size := ⟨_, rfl⟩
  rw [← hbS] at HN2 ⊢
  clear hbS
  have hx := HLX2.out
  have u0 := obj_cell hx 0
  simp at u0
  clear hx
  go_wp2_with fail
  refine (HS3.out _ HDw7.out).mono ?_
  rintro e w8 ⟨rfl, hb3⟩
  have HDw8 := Lib.hid (HDw7.out.trans (hb3.mono HDw7.out.size))
  have HN3 := Lib.hid (heap_alloc_new w8 (.cells #[.int .i64 A2, .int .i64 L3, .int .i64 W1, .int .i64 R3, .int .i64 E3] 45))
  obtain ⟨w9, hw9⟩ : ∃ x, x = w8.alloc (.cells #[.int .i64 A2, .int .i64 L3, .int .i64 W1, .int .i64 R3, .int .i64 E3] 45) := ⟨_, rfl⟩
  rw [← hw9] at HN3
  have HDw9 : Hid (Below w2.heap.size w2 w9) := Lib.hid (by rw [hw9]; exact HDw8.out.alloc HDw8.out.size _)
  have HLX3 : Hid (w9.heap[bL]? = some (.cells #[.slice av nl cv] 28 (0, 0))) := Lib.hid (by rw [hw9]; exact obj_below (obj_below HLX2.out hb3) (below_alloc _ _))
  have HM1_3 : Hid (w9.heap[bS1]? = some (.cells #[.int .i64 A1, .int .i64 L1, .int .i64 W1, .int .i64 R1, .int .i64 E1] 45 (0, 0))) := Lib.hid (by rw [hw9]; exact obj_below (obj_below HM1_2.out hb3) (below_alloc _ _))
  have HM2_3 : Hid (w9.heap[bS2]? = some (.cells #[.int .i64 A2, .int .i64 L2, .int .i64 W2, .int .i64 R2, .int .i64 E2] 45 (0, 0))) := Lib.hid (by rw [hw9]; exact obj_below (obj_below HN2.out hb3) (below_alloc _ _))
  have HE3 := Lib.hid hw9
  clear hb3 hw9 u0
  go_upto_region 8 with fail
  rw [← HE3.out]
  obtain ⟨bS3, hbS⟩ : ∃ x, x = w8.heap.size := ⟨_, rfl⟩
  rw [← hbS] at HN3 ⊢
  clear hbS
  have hx := HLX3.out
  have u0 := obj_cell hx 0
  simp at u0
  clear hx
  have hb1 := HM1_3.out
  have hb2 := HM2_3.out
  have hb3 := HN3.out
  have p0 := obj_cell hb1 0
  have p1 := obj_cell hb1 1
  have p2 := obj_cell hb1 2
  have p3 := obj_cell hb1 3
  have p4 := obj_cell hb1 4
  simp at p0 p1 p2 p3 p4
  have q0 := obj_cell hb2 0
  have q1 := obj_cell hb2 1
  have q2 := obj_cell hb2 2
  have q3 := obj_cell hb2 3
  have q4 := obj_cell hb2 4
  simp at q0 q1 q2 q3 q4
  have s0 := obj_cell hb3 0
  have s1 := obj_cell hb3 1
  have s2 := obj_cell hb3 2
  have s3 := obj_cell hb3 3
  have s4 := obj_cell hb3 4
  simp at s0 s1 s2 s3 s4
  clear hb1 hb2 hb3 u0
  try simp only [List.append_eq, List.cons_append, List.nil_append]
  go_wp2_with fail
  refine (HSN.out _).mono ?_
  rintro e w10 ⟨rfl, hb10⟩
  have HBF := Lib.hid (HDw9.out.trans (hb10.mono HDw9.out.size))
  clear hb10
  go_wp2
  go_ret
  exact ⟨rfl, HB2.out.trans (HBF.out.mono HB2.out.size)⟩

end Go.Proofs.Ytoelidndnajedab
