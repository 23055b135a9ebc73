/- The source's Posting of one entity: no partner, plain accounts. -/
import Derived.Test.YtdbpbmejgdbppaaLgF
import Derived.Test.YtdbpbmejgdbppaaCsA
import Derived.Test.YtdbpbmejgdbppaaPut8
import Derived.Deep.DeepCutAuto
set_option linter.unusedSimpArgs false
set_option linter.unusedVariables false
namespace Go.Proofs.Ytdbpbmejgdbppaa
open Go.RowKit Go.Lib Go.Proofs

set_option maxRecDepth 100000 in
set_option maxHeartbeats 16000000 in
theorem sPosting_one (tb : Nat) (num day : Int) (w : World) (hs : SrcAt w tb) (hn : 1 ≤ num ∧ num ≤ 1000000) (hd : 0 ≤ day ∧ day ≤ 36000) :
    Calls Try.prog 23 #[.pointer (some ⟨tb, 0, none⟩), .int .i64 num, .int .i64 day, .int .i64 1] w fun e w' => ∃ p : Pst, e = .returned (.agg (pstC p).toArray) ∧ PstOk p ∧ p.num = num ∧ p.day = day ∧ p.ent ≤ 1 ∧ p.par = 0 ∧ plainA p.deb ∧ plainA p.crd ∧ SI w tb w' := by
  have hlt := hs.lt
  have hs1 := (si_start hs).alloc (.cells #[.int .i64 0, .int .i64 0, .int .i64 0, .int .i64 0, .int .i64 0, .int .i64 0, .int .i64 0, .int .i64 0] 41)
  have HS0 := Lib.hid hs1
  have HSI := Lib.hid (si_start hs1.src)
  have HR0 := Lib.hid (heap_alloc_new w (.cells #[.int .i64 0, .int .i64 0, .int .i64 0, .int .i64 0, .int .i64 0, .int .i64 0, .int .i64 0, .int .i64 0] 41))
  have hrne : w.heap.size ≠ tb := by omega
  obtain ⟨w0, hw0⟩ : ∃ w0, w0 = w.alloc (.cells #[.int .i64 0, .int .i64 0, .int .i64 0, .int .i64 0, .int .i64 0, .int .i64 0, .int .i64 0, .int .i64 0] 41) := ⟨_, rfl⟩
  rw [← hw0] at HS0 HSI HR0
  have HLE : Hid (w.heap.size < w0.heap.size) := Lib.hid (by rw [hw0]; simp)
  have hwE := hw0.symm
  have hEND : Hid (∀ W, SI w0 tb W → SI w tb W) := Lib.hid fun W hW => ⟨hW.src, grown_step HS0.out.old hW.old, hlt⟩
  clear hs hs1 hw0
  go_enter Try.func23, Try.ntmps23
  go_wp2_with fail
  refine (range_in HSI.out 1 1 (by omega) (by omega) (by omega)).mono ?_
  rintro e w1 ⟨r, rfl, r0, r1, hi1, hg1⟩
  have HI1 := Lib.hid hi1
  clear hi1 hg1 HSI hwE
  go_wp2_with fail
  with_reducible refine Calls.mono (pick_in _ [110, 120, 210, 300, 410, 510, 520] _ _ rfl HI1.out (by simp) (by simp) _ rfl _ (by simp)) ?_
  rintro e w2 ⟨xd, rfl, hxd, hi, hg⟩
  have HI2 := Lib.hid hi
  clear hi hg HI1
  go_wp2_with fail
  with_reducible refine Calls.mono (pick_in _ [111, 119, 220, 310, 420, 530] _ _ rfl HI2.out (by simp) (by simp) _ rfl _ (by simp)) ?_
  rintro e w3 ⟨xc, rfl, hxc, hi, hg⟩
  have HI3 := Lib.hid hi
  clear hi hg HI2
  go_wp2_with fail
  with_reducible refine Calls.mono (pick_in _ [1, 20, 100, 1000] _ _ rfl HI3.out (by simp) (by simp) _ rfl _ (by simp)) ?_
  rintro e w4 ⟨xa, rfl, hxa, hi, hg⟩
  have HI4 := Lib.hid hi
  clear hi hg HI3
  go_wp2_with fail
  refine (n_in HI4.out 4 (by omega) (by omega)).mono ?_
  rintro e w5 ⟨n4, rfl, n0, n1, hi5, hg5⟩
  have HI5 := Lib.hid hi5
  clear hi5 hg5 HI4
  have hdc : xd ≠ xc := (by decide : ∀ x ∈ ([110, 120, 210, 300, 410, 510, 520] : List Int), ∀ y ∈ ([111, 119, 220, 310, 420, 530] : List Int), x ≠ y) xd hxd xc hxc
  have hxd2 : 100 ≤ xd ∧ xd ≤ 599 := (by decide : ∀ x ∈ ([110, 120, 210, 300, 410, 510, 520] : List Int), 100 ≤ x ∧ x ≤ 599) xd hxd
  have hxc2 : 100 ≤ xc ∧ xc ≤ 599 := (by decide : ∀ x ∈ ([111, 119, 220, 310, 420, 530] : List Int), 100 ≤ x ∧ x ≤ 599) xc hxc
  have hxa2 : 1 ≤ xa ∧ xa ≤ 1000000000000 := (by decide : ∀ x ∈ ([1, 20, 100, 1000] : List Int), 1 ≤ x ∧ x ≤ 1000000000000) xa hxa
  have hpd : plainA xd := (by unfold plainA; decide : ∀ x ∈ ([110, 120, 210, 300, 410, 510, 520] : List Int), plainA x) xd hxd
  have hpc : plainA xc := (by unfold plainA; decide : ∀ x ∈ ([111, 119, 220, 310, 420, 530] : List Int), plainA x) xc hxc
  have HPD := Lib.hid hpd
  have HPC := Lib.hid hpc
  clear hxd hxc hxa hpd hpc
  obtain ⟨bE, hbE⟩ : ∃ bE, bE = w5.heap.size := ⟨_, rfl⟩
  have hne : bE ≠ tb := by have := HI5.out.src.lt; omega
  have hbE2 : w0.heap.size ≤ bE := by rw [hbE]; exact HI5.out.old.size
  obtain ⟨w6, hw6⟩ : ∃ w6, w6 = w5.alloc (.cells #[.int .i64 num, .int .i64 day, .int .i64 r, .int .i64 xd, .int .i64 xc, .int .i64 xa, .int .i64 0, .int .i64 n4] 41) := ⟨_, rfl⟩
  have HX6 : Hid (w6.heap[bE]? = some (.cells #[.int .i64 num, .int .i64 day, .int .i64 r, .int .i64 xd, .int .i64 xc, .int .i64 xa, .int .i64 0, .int .i64 n4] 41 (0, 0))) := Lib.hid (by rw [hw6, hbE]; exact heap_alloc_new _ _)
  have HI6 : Hid (SI w0 tb w6) := Lib.hid (by rw [hw6]; exact HI5.out.alloc _)
  have HW6 := Lib.hid hw6
  have HBE := Lib.hid hbE
  have HOK0 : Hid (PstOk ⟨num, day, r, xd, xc, xa, 0, n4⟩) := Lib.hid ⟨hn, hd, ⟨r0, by show r ≤ 10; omega⟩, hxd2, hxc2, hdc, hxa2, by simp, by show (0 : Int) ≠ r; omega, by show 0 ≤ n4 ∧ n4 ≤ 1000000; omega⟩
  clear hw6 hbE HI5
  go_upto_region 2 with fail
  rw [← HW6.out, ← HBE.out]
  have h1f : ¬ (1 : Int) < 1 := by omega
  have hxe := HX6.out
  have hre := obj_turn HR0.out HI6.out.old hrne
  have c0 := obj_cell hxe 0
  have c1 := obj_cell hxe 1
  have c2 := obj_cell hxe 2
  have c3 := obj_cell hxe 3
  have c4 := obj_cell hxe 4
  have c5 := obj_cell hxe 5
  have c6 := obj_cell hxe 6
  have c7 := obj_cell hxe 7
  simp at c0 c1 c2 c3 c4 c5 c6 c7
  have d0 := obj_cell hre 0
  have d1 := obj_cell hre 1
  have d2 := obj_cell hre 2
  have d3 := obj_cell hre 3
  have d4 := obj_cell hre 4
  have d5 := obj_cell hre 5
  have d6 := obj_cell hre 6
  have d7 := obj_cell hre 7
  simp at d0 d1 d2 d3 d4 d5 d6 d7
  have z0 := obj_free hre 0
  have z1 := obj_free hre 1
  have z2 := obj_free hre 2
  have z3 := obj_free hre 3
  have z4 := obj_free hre 4
  have z5 := obj_free hre 5
  have z6 := obj_free hre 6
  have z7 := obj_free hre 7
  have HRE := Lib.hid hre
  clear hxe hre
  go_wp2
  refine ret8 HRE.out rfl _ _ _ _ _ _ _ _ (v := .agg #[.int .i64 num, .int .i64 day, .int .i64 r, .int .i64 xd, .int .i64 xc, .int .i64 xa, .int .i64 0, .int .i64 n4]) (fun F hF => ?_) rfl ⟨⟨num, day, r, xd, xc, xa, 0, n4⟩, rfl, HOK0.out, rfl, rfl, by first | omega | assumption, rfl, HPD.out, HPC.out, (hEND.out _ HI6.out).put8 (Nat.le_refl _) _ _ _ _ _ _ _ _⟩
  have q0 := obj_cell hF 0
  have q1 := obj_cell hF 1
  have q2 := obj_cell hF 2
  have q3 := obj_cell hF 3
  have q4 := obj_cell hF 4
  have q5 := obj_cell hF 5
  have q6 := obj_cell hF 6
  have q7 := obj_cell hF 7
  simp at q0 q1 q2 q3 q4 q5 q6 q7
  simp [results, Try.results23, go_sem, q0, q1, q2, q3, q4, q5, q6, q7]

end Go.Proofs.Ytdbpbmejgdbppaa
