/- The source's Posting: a valid, small posting with the number and the day that were asked for. -/
import Derived.Test.YtoccnindkimjdaaMLgF
import Derived.Test.YtoccnindkimjdaaMPut8
import Derived.Deep.DeepCutAuto
set_option linter.unusedSimpArgs false
set_option linter.unusedVariables false
set_option linter.unusedSimpArgs false
set_option linter.unusedVariables false
namespace Go.Proofs.Ytoccnindkimjdaa
open Go.RowKit Go.Lib Go.Proofs

set_option maxRecDepth 100000 in
set_option maxHeartbeats 16000000 in
theorem sPosting_any (tb : Nat) (num day ents : Int) (w : World) (hs : SrcAt w tb) (hn : 1 ≤ num ∧ num ≤ 1000000) (hd : 0 ≤ day ∧ day ≤ 36000) (he : 1 ≤ ents ∧ ents ≤ 10) :
    Calls Try.prog 37 #[.pointer (some ⟨tb, 0, none⟩), .int .i64 num, .int .i64 day, .int .i64 ents] w fun e w' => ∃ p : Pst, e = .returned (.agg (pstC p).toArray) ∧ PstOk p ∧ p.num = num ∧ p.day = day ∧ (p.ent ≤ ents ∧ p.amt ≤ 1000) ∧ SI w tb w' := by
  have hlt := hs.lt
  have hs1 := (si_start hs).alloc (.cells #[.int .i64 0, .int .i64 0, .int .i64 0, .int .i64 0, .int .i64 0, .int .i64 0, .int .i64 0, .int .i64 0] 55)
  have HS0 := Lib.hid hs1
  have HSI := Lib.hid (si_start hs1.src)
  have HR0 := Lib.hid (heap_alloc_new w (.cells #[.int .i64 0, .int .i64 0, .int .i64 0, .int .i64 0, .int .i64 0, .int .i64 0, .int .i64 0, .int .i64 0] 55))
  have hrne : w.heap.size ≠ tb := by omega
  obtain ⟨w0, hw0⟩ : ∃ w0, w0 = w.alloc (.cells #[.int .i64 0, .int .i64 0, .int .i64 0, .int .i64 0, .int .i64 0, .int .i64 0, .int .i64 0, .int .i64 0] 55) := ⟨_, rfl⟩
  rw [← hw0] at HS0 HSI HR0
  have HLE : Hid (w.heap.size < w0.heap.size) := Lib.hid (by rw [hw0]; simp)
  have hwE := hw0.symm
  have hEND : Hid (∀ W, SI w0 tb W → SI w tb W) := Lib.hid fun W hW => ⟨hW.src, grown_step HS0.out.old hW.old, hlt⟩
  clear hs hs1 hw0
  go_enter Try.func37, Try.ntmps37
  go_wp2_with fail
  refine (range_in HSI.out 1 ents he.1 (by omega) (by omega)).mono ?_
  rintro e w1 ⟨r, rfl, r0, r1, hi1, hg1⟩
  have HI1 := Lib.hid hi1
  clear hi1 hg1 HSI hwE
  go_wp2_with fail
  with_reducible refine Calls.mono (pick_in _ [110, 120, 210, 300, 410, 510, 520] _ _ rfl HI1.out (by simp) (by simp) _ rfl _ (by simp)) ?_
  rintro e w2 ⟨xd, rfl, hxd, hi, hg⟩
  have HI2 := Lib.hid hi
  clear hi hg HI1
  go_wp2_with fail
  with_reducible refine Calls.mono (pick_in _ [111, 119, 220, 310, 420, 530] _ _ rfl HI2.out (by simp) (by simp) _ rfl _ (by simp)) ?_
  rintro e w3 ⟨xc, rfl, hxc, hi, hg⟩
  have HI3 := Lib.hid hi
  clear hi hg HI2
  go_wp2_with fail
  with_reducible refine Calls.mono (pick_in _ [1, 20, 100, 1000] _ _ rfl HI3.out (by simp) (by simp) _ rfl _ (by simp)) ?_
  rintro e w4 ⟨xa, rfl, hxa, hi, hg⟩
  have HI4 := Lib.hid hi
  clear hi hg HI3
  go_wp2_with fail
  refine (n_in HI4.out 4 (by omega) (by omega)).mono ?_
  rintro e w5 ⟨n4, rfl, n0, n1, hi5, hg5⟩
  have HI5 := Lib.hid hi5
  clear hi5 hg5 HI4
  have hdc : xd ≠ xc := (by decide : ∀ x ∈ ([110, 120, 210, 300, 410, 510, 520] : List Int), ∀ y ∈ ([111, 119, 220, 310, 420, 530] : List Int), x ≠ y) xd hxd xc hxc
  have hxd2 : 100 ≤ xd ∧ xd ≤ 599 := (by decide : ∀ x ∈ ([110, 120, 210, 300, 410, 510, 520] : List Int), 100 ≤ x ∧ x ≤ 599) xd hxd
  have hxc2 : 100 ≤ xc ∧ xc ≤ 599 := (by decide : ∀ x ∈ ([111, 119, 220, 310, 420, 530] : List Int), 100 ≤ x ∧ x ≤ 599) xc hxc
  have hxa2 : 1 ≤ xa ∧ xa ≤ 1000 := (by decide : ∀ x ∈ ([1, 20, 100, 1000] : List Int), 1 ≤ x ∧ x ≤ 1000) xa hxa
  clear hxd hxc hxa
  obtain ⟨bE, hbE⟩ : ∃ bE, bE = w5.heap.size := ⟨_, rfl⟩
  have hne : bE ≠ tb := by have := HI5.out.src.lt; omega
  have hbE2 : w0.heap.size ≤ bE := by rw [hbE]; exact HI5.out.old.size
  obtain ⟨w6, hw6⟩ : ∃ w6, w6 = w5.alloc (.cells #[.int .i64 num, .int .i64 day, .int .i64 r, .int .i64 xd, .int .i64 xc, .int .i64 xa, .int .i64 0, .int .i64 n4] 55) := ⟨_, rfl⟩
  have HX6 : Hid (w6.heap[bE]? = some (.cells #[.int .i64 num, .int .i64 day, .int .i64 r, .int .i64 xd, .int .i64 xc, .int .i64 xa, .int .i64 0, .int .i64 n4] 55 (0, 0))) := Lib.hid (by rw [hw6, hbE]; exact heap_alloc_new _ _)
  have HI6 : Hid (SI w0 tb w6) := Lib.hid (by rw [hw6]; exact HI5.out.alloc _)
  have HW6 := Lib.hid hw6
  have HBE := Lib.hid hbE
  have HOK0 : Hid (PstOk ⟨num, day, r, xd, xc, xa, 0, n4⟩) := Lib.hid ⟨hn, hd, ⟨r0, by show r ≤ 10; omega⟩, hxd2, hxc2, hdc, ⟨hxa2.1, by show xa ≤ 1000000000000; omega⟩, by simp, by show (0 : Int) ≠ r; omega, by show 0 ≤ n4 ∧ n4 ≤ 1000000; omega⟩
  clear hw6 hbE HI5
  go_upto_region 2 with fail
  rw [← HW6.out, ← HBE.out]
  by_cases h1 : 1 < ents
  · go_wp2_with fail
    refine (n_in HI6.out 2 (by omega) (by omega)).mono ?_
    rintro e w7 ⟨z, rfl, z0, z1, hi7, hg7⟩
    have HI7 := Lib.hid hi7
    have HX7 := Lib.hid (obj_turn HX6.out hg7 hne)
    clear hi7 hg7 HX6 HI6 HW6
    by_cases hz : z = 1
    · subst hz
      obtain ⟨pm, hpm⟩ : ∃ pm, r.tmod ents = pm := ⟨_, rfl⟩
      have hpm0 : 0 ≤ pm := by rw [← hpm]; exact Int.tmod_nonneg _ (by omega)
      have hpm1 : pm < ents := by rw [← hpm]; exact Int.tmod_lt_of_pos _ (by omega)
      have hpne : pm + 1 ≠ r := by
        intro hq
        by_cases hre : r = ents
        · rw [hre, Int.tmod_self] at hpm
          omega
        · have : r.tmod ents = r := Int.tmod_eq_of_lt (by omega) (by omega)
          omega
      have hw1 : IntKind.i64.wrap pm = pm := IntWalk.i64_in _ (by omega)
      have hw2 : IntKind.i64.wrap (pm + 1) = pm + 1 := IntWalk.i64_in _ (by omega)
      have he0 : ¬ ents = 0 := by omega
      have he1 : (ents == 0) = false := by rw [beq_eq_false_iff_ne]; exact he0
      have hx7 := HX7.out
      have c0 := obj_cell hx7 0
      have c1 := obj_cell hx7 1
      have c2 := obj_cell hx7 2
      have c3 := obj_cell hx7 3
      have c4 := obj_cell hx7 4
      have c5 := obj_cell hx7 5
      have c6 := obj_cell hx7 6
      have c7 := obj_cell hx7 7
      simp at c0 c1 c2 c3 c4 c5 c6 c7
      have z0 := obj_free hx7 0
      have z1 := obj_free hx7 1
      have z2 := obj_free hx7 2
      have z3 := obj_free hx7 3
      have z4 := obj_free hx7 4
      have z5 := obj_free hx7 5
      have z6 := obj_free hx7 6
      have z7 := obj_free hx7 7
      have HX8 := Lib.hid (obj_set hx7 6 (.int .i64 (pm + 1)))
      have HI8 := Lib.hid (HI7.out.set hbE2 6 (.int .i64 (pm + 1)))
      clear hx7
      go_wp2_with fail
      refine (n_in HI8.out 4 (by omega) (by omega)).mono ?_
      rintro e w8 ⟨q, rfl, q0, q1, hi8, hg8⟩
      have HI9 := Lib.hid hi8
      have HX9 := Lib.hid (obj_turn HX8.out hg8 hne)
      simp only [List.setIfInBounds_toArray, List.set_cons_zero, List.set_cons_succ] at HX9
      clear hi8 hg8 HX8 HI8 HX7 HI7 z0 z1 z2 z3 z4 z5 z6 z7 c0 c1 c2 c3 c4 c5 c6 c7
      by_cases hq0 : q = 0
      · subst hq0
        have hx9 := HX9.out
        have c0 := obj_cell hx9 0
        have c1 := obj_cell hx9 1
        have c2 := obj_cell hx9 2
        have c3 := obj_cell hx9 3
        have c4 := obj_cell hx9 4
        have c5 := obj_cell hx9 5
        have c6 := obj_cell hx9 6
        have c7 := obj_cell hx9 7
        simp at c0 c1 c2 c3 c4 c5 c6 c7
        have z0 := obj_free hx9 0
        have z1 := obj_free hx9 1
        have z2 := obj_free hx9 2
        have z3 := obj_free hx9 3
        have z4 := obj_free hx9 4
        have z5 := obj_free hx9 5
        have z6 := obj_free hx9 6
        have z7 := obj_free hx9 7
        have HX10 := obj_set (obj_set hx9 3 (.int .i64 140)) 4 (.int .i64 440)
        simp only [List.setIfInBounds_toArray, List.set_cons_zero, List.set_cons_succ] at HX10
        have HI10 := (HI9.out.set hbE2 3 (.int .i64 140)).set hbE2 4 (.int .i64 440)
        clear hx9
        go_upto_region 12 with fail
        obtain ⟨w10, hw10⟩ : ∃ w10, w10 = (w8.setCell ⟨bE, 3, none⟩ (.int .i64 140)).setCell ⟨bE, 4, none⟩ (.int .i64 440) := ⟨_, rfl⟩
        rw [← hw10] at HX10 HI10 ⊢
        have HXA := Lib.hid HX10
        have HIA := Lib.hid HI10
        clear HX10 HI10 hw10 HX9 HI9 c0 c1 c2 c3 c4 c5 c6 c7 z0 z1 z2 z3 z4 z5 z6 z7
        have hok : PstOk ⟨num, day, r, 140, 440, xa, pm + 1, n4⟩ := ⟨hn, hd, ⟨r0, by show r ≤ 10; omega⟩, by simp, by simp, by simp, ⟨hxa2.1, by show xa ≤ 1000000000000; omega⟩, by show (0 : Int) ≤ pm + 1 ∧ pm + 1 ≤ 10; omega, hpne, by show 0 ≤ n4 ∧ n4 ≤ 1000000; omega⟩
        have HOKA := Lib.hid hok
        clear hok
        have hxe := HXA.out
        have hre := obj_turn HR0.out HIA.out.old hrne
        have c0 := obj_cell hxe 0
        have c1 := obj_cell hxe 1
        have c2 := obj_cell hxe 2
        have c3 := obj_cell hxe 3
        have c4 := obj_cell hxe 4
        have c5 := obj_cell hxe 5
        have c6 := obj_cell hxe 6
        have c7 := obj_cell hxe 7
        simp at c0 c1 c2 c3 c4 c5 c6 c7
        have d0 := obj_cell hre 0
        have d1 := obj_cell hre 1
        have d2 := obj_cell hre 2
        have d3 := obj_cell hre 3
        have d4 := obj_cell hre 4
        have d5 := obj_cell hre 5
        have d6 := obj_cell hre 6
        have d7 := obj_cell hre 7
        simp at d0 d1 d2 d3 d4 d5 d6 d7
        have z0 := obj_free hre 0
        have z1 := obj_free hre 1
        have z2 := obj_free hre 2
        have z3 := obj_free hre 3
        have z4 := obj_free hre 4
        have z5 := obj_free hre 5
        have z6 := obj_free hre 6
        have z7 := obj_free hre 7
        have HRE := Lib.hid hre
        clear hxe hre
        go_wp2
        refine ret8 HRE.out rfl _ _ _ _ _ _ _ _ (v := .agg #[.int .i64 num, .int .i64 day, .int .i64 r, .int .i64 140, .int .i64 440, .int .i64 xa, .int .i64 (pm + 1), .int .i64 n4]) (fun F hF => ?_) rfl ⟨⟨num, day, r, 140, 440, xa, pm + 1, n4⟩, rfl, HOKA.out, rfl, rfl, ⟨by first | omega | assumption, by first | exact hxa2.2 | omega⟩, (hEND.out _ HIA.out).put8 (Nat.le_refl _) _ _ _ _ _ _ _ _⟩
        have q0 := obj_cell hF 0
        have q1 := obj_cell hF 1
        have q2 := obj_cell hF 2
        have q3 := obj_cell hF 3
        have q4 := obj_cell hF 4
        have q5 := obj_cell hF 5
        have q6 := obj_cell hF 6
        have q7 := obj_cell hF 7
        simp at q0 q1 q2 q3 q4 q5 q6 q7
        simp [results, Try.results37, go_sem, q0, q1, q2, q3, q4, q5, q6, q7]
      · have hqf0 : (q == 0) = false := by rw [beq_eq_false_iff_ne]; exact hq0
        by_cases hq1 : q = 1
        · subst hq1
          have hx9 := HX9.out
          have c0 := obj_cell hx9 0
          have c1 := obj_cell hx9 1
          have c2 := obj_cell hx9 2
          have c3 := obj_cell hx9 3
          have c4 := obj_cell hx9 4
          have c5 := obj_cell hx9 5
          have c6 := obj_cell hx9 6
          have c7 := obj_cell hx9 7
          simp at c0 c1 c2 c3 c4 c5 c6 c7
          have z0 := obj_free hx9 0
          have z1 := obj_free hx9 1
          have z2 := obj_free hx9 2
          have z3 := obj_free hx9 3
          have z4 := obj_free hx9 4
          have z5 := obj_free hx9 5
          have z6 := obj_free hx9 6
          have z7 := obj_free hx9 7
          have HX10 := obj_set (obj_set hx9 3 (.int .i64 540)) 4 (.int .i64 240)
          simp only [List.setIfInBounds_toArray, List.set_cons_zero, List.set_cons_succ] at HX10
          have HI10 := (HI9.out.set hbE2 3 (.int .i64 540)).set hbE2 4 (.int .i64 240)
          clear hx9
          go_upto_region 12 with fail
          obtain ⟨w10, hw10⟩ : ∃ w10, w10 = (w8.setCell ⟨bE, 3, none⟩ (.int .i64 540)).setCell ⟨bE, 4, none⟩ (.int .i64 240) := ⟨_, rfl⟩
          rw [← hw10] at HX10 HI10 ⊢
          have HXA := Lib.hid HX10
          have HIA := Lib.hid HI10
          clear HX10 HI10 hw10 HX9 HI9 c0 c1 c2 c3 c4 c5 c6 c7 z0 z1 z2 z3 z4 z5 z6 z7
          have hok : PstOk ⟨num, day, r, 540, 240, xa, pm + 1, n4⟩ := ⟨hn, hd, ⟨r0, by show r ≤ 10; omega⟩, by simp, by simp, by simp, ⟨hxa2.1, by show xa ≤ 1000000000000; omega⟩, by show (0 : Int) ≤ pm + 1 ∧ pm + 1 ≤ 10; omega, hpne, by show 0 ≤ n4 ∧ n4 ≤ 1000000; omega⟩
          have HOKA := Lib.hid hok
          clear hok
          have hxe := HXA.out
          have hre := obj_turn HR0.out HIA.out.old hrne
          have c0 := obj_cell hxe 0
          have c1 := obj_cell hxe 1
          have c2 := obj_cell hxe 2
          have c3 := obj_cell hxe 3
          have c4 := obj_cell hxe 4
          have c5 := obj_cell hxe 5
          have c6 := obj_cell hxe 6
          have c7 := obj_cell hxe 7
          simp at c0 c1 c2 c3 c4 c5 c6 c7
          have d0 := obj_cell hre 0
          have d1 := obj_cell hre 1
          have d2 := obj_cell hre 2
          have d3 := obj_cell hre 3
          have d4 := obj_cell hre 4
          have d5 := obj_cell hre 5
          have d6 := obj_cell hre 6
          have d7 := obj_cell hre 7
          simp at d0 d1 d2 d3 d4 d5 d6 d7
          have z0 := obj_free hre 0
          have z1 := obj_free hre 1
          have z2 := obj_free hre 2
          have z3 := obj_free hre 3
          have z4 := obj_free hre 4
          have z5 := obj_free hre 5
          have z6 := obj_free hre 6
          have z7 := obj_free hre 7
          have HRE := Lib.hid hre
          clear hxe hre
          go_wp2
          refine ret8 HRE.out rfl _ _ _ _ _ _ _ _ (v := .agg #[.int .i64 num, .int .i64 day, .int .i64 r, .int .i64 540, .int .i64 240, .int .i64 xa, .int .i64 (pm + 1), .int .i64 n4]) (fun F hF => ?_) rfl ⟨⟨num, day, r, 540, 240, xa, pm + 1, n4⟩, rfl, HOKA.out, rfl, rfl, ⟨by first | omega | assumption, by first | exact hxa2.2 | omega⟩, (hEND.out _ HIA.out).put8 (Nat.le_refl _) _ _ _ _ _ _ _ _⟩
          have q0 := obj_cell hF 0
          have q1 := obj_cell hF 1
          have q2 := obj_cell hF 2
          have q3 := obj_cell hF 3
          have q4 := obj_cell hF 4
          have q5 := obj_cell hF 5
          have q6 := obj_cell hF 6
          have q7 := obj_cell hF 7
          simp at q0 q1 q2 q3 q4 q5 q6 q7
          simp [results, Try.results37, go_sem, q0, q1, q2, q3, q4, q5, q6, q7]
        · have hqf1 : (q == 1) = false := by rw [beq_eq_false_iff_ne]; exact hq1
          by_cases hq2 : q = 2
          · subst hq2
            have hx9 := HX9.out
            have c0 := obj_cell hx9 0
            have c1 := obj_cell hx9 1
            have c2 := obj_cell hx9 2
            have c3 := obj_cell hx9 3
            have c4 := obj_cell hx9 4
            have c5 := obj_cell hx9 5
            have c6 := obj_cell hx9 6
            have c7 := obj_cell hx9 7
            simp at c0 c1 c2 c3 c4 c5 c6 c7
            have z0 := obj_free hx9 0
            have z1 := obj_free hx9 1
            have z2 := obj_free hx9 2
            have z3 := obj_free hx9 3
            have z4 := obj_free hx9 4
            have z5 := obj_free hx9 5
            have z6 := obj_free hx9 6
            have z7 := obj_free hx9 7
            have HX10 := obj_set (obj_set hx9 3 (.int .i64 240)) 4 (.int .i64 110)
            simp only [List.setIfInBounds_toArray, List.set_cons_zero, List.set_cons_succ] at HX10
            have HI10 := (HI9.out.set hbE2 3 (.int .i64 240)).set hbE2 4 (.int .i64 110)
            clear hx9
            go_upto_region 12 with fail
            obtain ⟨w10, hw10⟩ : ∃ w10, w10 = (w8.setCell ⟨bE, 3, none⟩ (.int .i64 240)).setCell ⟨bE, 4, none⟩ (.int .i64 110) := ⟨_, rfl⟩
            rw [← hw10] at HX10 HI10 ⊢
            have HXA := Lib.hid HX10
            have HIA := Lib.hid HI10
            clear HX10 HI10 hw10 HX9 HI9 c0 c1 c2 c3 c4 c5 c6 c7 z0 z1 z2 z3 z4 z5 z6 z7
            have hok : PstOk ⟨num, day, r, 240, 110, xa, pm + 1, n4⟩ := ⟨hn, hd, ⟨r0, by show r ≤ 10; omega⟩, by simp, by simp, by simp, ⟨hxa2.1, by show xa ≤ 1000000000000; omega⟩, by show (0 : Int) ≤ pm + 1 ∧ pm + 1 ≤ 10; omega, hpne, by show 0 ≤ n4 ∧ n4 ≤ 1000000; omega⟩
            have HOKA := Lib.hid hok
            clear hok
            have hxe := HXA.out
            have hre := obj_turn HR0.out HIA.out.old hrne
            have c0 := obj_cell hxe 0
            have c1 := obj_cell hxe 1
            have c2 := obj_cell hxe 2
            have c3 := obj_cell hxe 3
            have c4 := obj_cell hxe 4
            have c5 := obj_cell hxe 5
            have c6 := obj_cell hxe 6
            have c7 := obj_cell hxe 7
            simp at c0 c1 c2 c3 c4 c5 c6 c7
            have d0 := obj_cell hre 0
            have d1 := obj_cell hre 1
            have d2 := obj_cell hre 2
            have d3 := obj_cell hre 3
            have d4 := obj_cell hre 4
            have d5 := obj_cell hre 5
            have d6 := obj_cell hre 6
            have d7 := obj_cell hre 7
            simp at d0 d1 d2 d3 d4 d5 d6 d7
            have z0 := obj_free hre 0
            have z1 := obj_free hre 1
            have z2 := obj_free hre 2
            have z3 := obj_free hre 3
            have z4 := obj_free hre 4
            have z5 := obj_free hre 5
            have z6 := obj_free hre 6
            have z7 := obj_free hre 7
            have HRE := Lib.hid hre
            clear hxe hre
            go_wp2
            refine ret8 HRE.out rfl _ _ _ _ _ _ _ _ (v := .agg #[.int .i64 num, .int .i64 day, .int .i64 r, .int .i64 240, .int .i64 110, .int .i64 xa, .int .i64 (pm + 1), .int .i64 n4]) (fun F hF => ?_) rfl ⟨⟨num, day, r, 240, 110, xa, pm + 1, n4⟩, rfl, HOKA.out, rfl, rfl, ⟨by first | omega | assumption, by first | exact hxa2.2 | omega⟩, (hEND.out _ HIA.out).put8 (Nat.le_refl _) _ _ _ _ _ _ _ _⟩
            have q0 := obj_cell hF 0
            have q1 := obj_cell hF 1
            have q2 := obj_cell hF 2
            have q3 := obj_cell hF 3
            have q4 := obj_cell hF 4
            have q5 := obj_cell hF 5
            have q6 := obj_cell hF 6
            have q7 := obj_cell hF 7
            simp at q0 q1 q2 q3 q4 q5 q6 q7
            simp [results, Try.results37, go_sem, q0, q1, q2, q3, q4, q5, q6, q7]
          · have hqf2 : (q == 2) = false := by rw [beq_eq_false_iff_ne]; exact hq2
            have hx9 := HX9.out
            have c0 := obj_cell hx9 0
            have c1 := obj_cell hx9 1
            have c2 := obj_cell hx9 2
            have c3 := obj_cell hx9 3
            have c4 := obj_cell hx9 4
            have c5 := obj_cell hx9 5
            have c6 := obj_cell hx9 6
            have c7 := obj_cell hx9 7
            simp at c0 c1 c2 c3 c4 c5 c6 c7
            have z0 := obj_free hx9 0
            have z1 := obj_free hx9 1
            have z2 := obj_free hx9 2
            have z3 := obj_free hx9 3
            have z4 := obj_free hx9 4
            have z5 := obj_free hx9 5
            have z6 := obj_free hx9 6
            have z7 := obj_free hx9 7
            have HX10 := obj_set (obj_set hx9 3 (.int .i64 110)) 4 (.int .i64 140)
            simp only [List.setIfInBounds_toArray, List.set_cons_zero, List.set_cons_succ] at HX10
            have HI10 := (HI9.out.set hbE2 3 (.int .i64 110)).set hbE2 4 (.int .i64 140)
            clear hx9
            go_upto_region 12 with fail
            obtain ⟨w10, hw10⟩ : ∃ w10, w10 = (w8.setCell ⟨bE, 3, none⟩ (.int .i64 110)).setCell ⟨bE, 4, none⟩ (.int .i64 140) := ⟨_, rfl⟩
            rw [← hw10] at HX10 HI10 ⊢
            have HXA := Lib.hid HX10
            have HIA := Lib.hid HI10
            clear HX10 HI10 hw10 HX9 HI9 c0 c1 c2 c3 c4 c5 c6 c7 z0 z1 z2 z3 z4 z5 z6 z7
            have hok : PstOk ⟨num, day, r, 110, 140, xa, pm + 1, n4⟩ := ⟨hn, hd, ⟨r0, by show r ≤ 10; omega⟩, by simp, by simp, by simp, ⟨hxa2.1, by show xa ≤ 1000000000000; omega⟩, by show (0 : Int) ≤ pm + 1 ∧ pm + 1 ≤ 10; omega, hpne, by show 0 ≤ n4 ∧ n4 ≤ 1000000; omega⟩
            have HOKA := Lib.hid hok
            clear hok
            have hxe := HXA.out
            have hre := obj_turn HR0.out HIA.out.old hrne
            have c0 := obj_cell hxe 0
            have c1 := obj_cell hxe 1
            have c2 := obj_cell hxe 2
            have c3 := obj_cell hxe 3
            have c4 := obj_cell hxe 4
            have c5 := obj_cell hxe 5
            have c6 := obj_cell hxe 6
            have c7 := obj_cell hxe 7
            simp at c0 c1 c2 c3 c4 c5 c6 c7
            have d0 := obj_cell hre 0
            have d1 := obj_cell hre 1
            have d2 := obj_cell hre 2
            have d3 := obj_cell hre 3
            have d4 := obj_cell hre 4
            have d5 := obj_cell hre 5
            have d6 := obj_cell hre 6
            have d7 := obj_cell hre 7
            simp at d0 d1 d2 d3 d4 d5 d6 d7
            have z0 := obj_free hre 0
            have z1 := obj_free hre 1
            have z2 := obj_free hre 2
            have z3 := obj_free hre 3
            have z4 := obj_free hre 4
            have z5 := obj_free hre 5
            have z6 := obj_free hre 6
            have z7 := obj_free hre 7
            have HRE := Lib.hid hre
            clear hxe hre
            go_wp2
            refine ret8 HRE.out rfl _ _ _ _ _ _ _ _ (v := .agg #[.int .i64 num, .int .i64 day, .int .i64 r, .int .i64 110, .int .i64 140, .int .i64 xa, .int .i64 (pm + 1), .int .i64 n4]) (fun F hF => ?_) rfl ⟨⟨num, day, r, 110, 140, xa, pm + 1, n4⟩, rfl, HOKA.out, rfl, rfl, ⟨by first | omega | assumption, by first | exact hxa2.2 | omega⟩, (hEND.out _ HIA.out).put8 (Nat.le_refl _) _ _ _ _ _ _ _ _⟩
            have q0 := obj_cell hF 0
            have q1 := obj_cell hF 1
            have q2 := obj_cell hF 2
            have q3 := obj_cell hF 3
            have q4 := obj_cell hF 4
            have q5 := obj_cell hF 5
            have q6 := obj_cell hF 6
            have q7 := obj_cell hF 7
            simp at q0 q1 q2 q3 q4 q5 q6 q7
            simp [results, Try.results37, go_sem, q0, q1, q2, q3, q4, q5, q6, q7]
    · have hzf : (z == 1) = false := by rw [beq_eq_false_iff_ne]; exact hz
      have hxe := HX7.out
      have hre := obj_turn HR0.out HI7.out.old hrne
      have c0 := obj_cell hxe 0
      have c1 := obj_cell hxe 1
      have c2 := obj_cell hxe 2
      have c3 := obj_cell hxe 3
      have c4 := obj_cell hxe 4
      have c5 := obj_cell hxe 5
      have c6 := obj_cell hxe 6
      have c7 := obj_cell hxe 7
      simp at c0 c1 c2 c3 c4 c5 c6 c7
      have d0 := obj_cell hre 0
      have d1 := obj_cell hre 1
      have d2 := obj_cell hre 2
      have d3 := obj_cell hre 3
      have d4 := obj_cell hre 4
      have d5 := obj_cell hre 5
      have d6 := obj_cell hre 6
      have d7 := obj_cell hre 7
      simp at d0 d1 d2 d3 d4 d5 d6 d7
      have z0 := obj_free hre 0
      have z1 := obj_free hre 1
      have z2 := obj_free hre 2
      have z3 := obj_free hre 3
      have z4 := obj_free hre 4
      have z5 := obj_free hre 5
      have z6 := obj_free hre 6
      have z7 := obj_free hre 7
      have HRE := Lib.hid hre
      clear hxe hre
      go_wp2
      refine ret8 HRE.out rfl _ _ _ _ _ _ _ _ (v := .agg #[.int .i64 num, .int .i64 day, .int .i64 r, .int .i64 xd, .int .i64 xc, .int .i64 xa, .int .i64 0, .int .i64 n4]) (fun F hF => ?_) rfl ⟨⟨num, day, r, xd, xc, xa, 0, n4⟩, rfl, HOK0.out, rfl, rfl, ⟨by first | omega | assumption, by first | exact hxa2.2 | omega⟩, (hEND.out _ HI7.out).put8 (Nat.le_refl _) _ _ _ _ _ _ _ _⟩
      have q0 := obj_cell hF 0
      have q1 := obj_cell hF 1
      have q2 := obj_cell hF 2
      have q3 := obj_cell hF 3
      have q4 := obj_cell hF 4
      have q5 := obj_cell hF 5
      have q6 := obj_cell hF 6
      have q7 := obj_cell hF 7
      simp at q0 q1 q2 q3 q4 q5 q6 q7
      simp [results, Try.results37, go_sem, q0, q1, q2, q3, q4, q5, q6, q7]
  · have h1f : ¬ (1 : Int) < ents := h1
    have hxe := HX6.out
    have hre := obj_turn HR0.out HI6.out.old hrne
    have c0 := obj_cell hxe 0
    have c1 := obj_cell hxe 1
    have c2 := obj_cell hxe 2
    have c3 := obj_cell hxe 3
    have c4 := obj_cell hxe 4
    have c5 := obj_cell hxe 5
    have c6 := obj_cell hxe 6
    have c7 := obj_cell hxe 7
    simp at c0 c1 c2 c3 c4 c5 c6 c7
    have d0 := obj_cell hre 0
    have d1 := obj_cell hre 1
    have d2 := obj_cell hre 2
    have d3 := obj_cell hre 3
    have d4 := obj_cell hre 4
    have d5 := obj_cell hre 5
    have d6 := obj_cell hre 6
    have d7 := obj_cell hre 7
    simp at d0 d1 d2 d3 d4 d5 d6 d7
    have z0 := obj_free hre 0
    have z1 := obj_free hre 1
    have z2 := obj_free hre 2
    have z3 := obj_free hre 3
    have z4 := obj_free hre 4
    have z5 := obj_free hre 5
    have z6 := obj_free hre 6
    have z7 := obj_free hre 7
    have HRE := Lib.hid hre
    clear hxe hre
    go_wp2
    refine ret8 HRE.out rfl _ _ _ _ _ _ _ _ (v := .agg #[.int .i64 num, .int .i64 day, .int .i64 r, .int .i64 xd, .int .i64 xc, .int .i64 xa, .int .i64 0, .int .i64 n4]) (fun F hF => ?_) rfl ⟨⟨num, day, r, xd, xc, xa, 0, n4⟩, rfl, HOK0.out, rfl, rfl, ⟨by first | omega | assumption, by first | exact hxa2.2 | omega⟩, (hEND.out _ HI6.out).put8 (Nat.le_refl _) _ _ _ _ _ _ _ _⟩
    have q0 := obj_cell hF 0
    have q1 := obj_cell hF 1
    have q2 := obj_cell hF 2
    have q3 := obj_cell hF 3
    have q4 := obj_cell hF 4
    have q5 := obj_cell hF 5
    have q6 := obj_cell hF 6
    have q7 := obj_cell hF 7
    simp at q0 q1 q2 q3 q4 q5 q6 q7
    simp [results, Try.results37, go_sem, q0, q1, q2, q3, q4, q5, q6, q7]

end Go.Proofs.Ytoccnindkimjdaa
