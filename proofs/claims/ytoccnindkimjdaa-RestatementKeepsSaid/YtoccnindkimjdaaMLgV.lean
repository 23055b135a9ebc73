/- Contract of package ledger's Statement, on right ledgers. -/
import Derived.Test.YtoccnindkimjdaaMLgT
import Derived.Test.YtoccnindkimjdaaMPut5
set_option linter.unusedSimpArgs false
set_option linter.unusedVariables false
set_option linter.unusedSimpArgs false
set_option linter.unusedVariables false
namespace Go.Proofs.Ytoccnindkimjdaa
open Go.RowKit Go.Lib Go.Proofs Go.Maps

theorem ofM_small {l : List Pst} (h : LdgOk l) (e : Int) (f : Int → Bool) (a : Int) : -400000000000000 ≤ ofM e f a l ∧ ofM e f a l ≤ 400000000000000 := by
  have := ofM_take_bound h e f a l.length
  rwa [List.take_length] at this
theorem clsM_small {l : List Pst} (h : LdgOk l) (e : Int) (f : Int → Bool) (c : Int) : -200000000000000000 ≤ clsM e f c l ∧ clsM e f c l ≤ 200000000000000000 := by
  rw [← clsM_eq (n := 500) (Nat.le_refl _) h.mem]
  have h1 := sumZ_bound (q := fun x => decide (classM x = c)) (g := fun x => ofM e f x l) (B := 400000000000000) (fun x => ofM_small h e f x) (by omega) 500
  unfold clsN
  omega
theorem lgsum_cls {l : List Pst} (h : LdgOk l) (e : Int) (f : Int → Bool) (c : Int) (b n : Nat) (w : World) (hm : MapZ w b n (fun x => ofM e f x l) (fun x => touchM e f x l)) :
    Calls Try.prog 77 #[.map (some b), .int .i64 c] w fun r w' => r = .returned (.int .i64 (clsM e f c l)) ∧ Below w.heap.size w w' := by
  have := lgsum_right b n _ _ c w hm (fun x hx => touchM_range h.mem hx) (fun x hx => ofM_untouched hx) (fun x => ofM_small h e f x)
  rw [show sumZ (fun x => decide (classM x = c)) (fun x => ofM e f x l) 500 = clsM e f c l from clsM_eq (Nat.le_refl _) h.mem] at this
  exact this

set_option maxRecDepth 100000 in
set_option maxHeartbeats 8000000 in
theorem lgStatement_right {l : List Pst} (h : LdgOk l) (ee lo hi : Int) (v : Value) (w : World) (hl : PstsAt w v l) (he : 0 ≤ ee ∧ ee ≤ 10) (hlo : 0 ≤ lo ∧ lo ≤ 36000) (hhi : lo ≤ hi ∧ hi ≤ 36000) :
    Calls Try.prog 55 #[.agg #[v], .int .i64 ee, .int .i64 lo, .int .i64 hi] w fun e w' => e = .returned (.tuple #[.agg #[.int .i64 (clsM ee (byDay hi) 1 l), .int .i64 (-clsM ee (byDay hi) 2 l), .int .i64 (-clsM ee (ereDay lo) 3 l - clsM ee (ereDay lo) 4 l - clsM ee (ereDay lo) 5 l), .int .i64 (-clsM ee (amidDay lo hi) 4 l), .int .i64 (clsM ee (amidDay lo hi) 5 l)], .int .i64 0]) ∧ Below w.heap.size w w' := by
  have HCK := Lib.hid (fun W (hW : Below w.heap.size w W) => lgCheck_right h v W (hl.below hW))
  obtain ⟨w0, hw0⟩ : ∃ w0, w0 = (((w.alloc (.cells #[v] 27)).alloc (.cells #[.int .i64 lo] 3)).alloc (.cells #[.int .i64 hi] 3)).alloc (.cells #[.int .i64 0, .int .i64 0, .int .i64 0, .int .i64 0, .int .i64 0] 38) := ⟨_, rfl⟩
  have HB0 : Hid (Below w.heap.size w w0) := Lib.hid (by rw [hw0]; exact (((below_alloc w _).trans ((below_alloc _ _).mono (by simp))).trans ((below_alloc _ _).mono (by simp; omega))).trans ((below_alloc _ _).mono (by simp; omega)))
  have HX0 : Hid (w0.heap[w.heap.size]? = some (.cells #[v] 27 (0, 0))) := Lib.hid (by rw [hw0]; exact obj_below (obj_below (obj_below (heap_alloc_new w _) (below_alloc _ _)) (below_alloc _ _)) (below_alloc _ _))
  have HF0 : Hid (w0.heap[w.heap.size + 1]? = some (.cells #[.int .i64 lo] 3 (0, 0))) := Lib.hid (by rw [hw0]; exact obj_below (obj_below (by have := heap_alloc_new (w.alloc (.cells #[v] 27)) (.cells #[.int .i64 lo] 3); simpa using this) (below_alloc _ _)) (below_alloc _ _))
  have HT0 : Hid (w0.heap[w.heap.size + 2]? = some (.cells #[.int .i64 hi] 3 (0, 0))) := Lib.hid (by rw [hw0]; exact obj_below (by have := heap_alloc_new ((w.alloc (.cells #[v] 27)).alloc (.cells #[.int .i64 lo] 3)) (.cells #[.int .i64 hi] 3); simpa using this) (below_alloc _ _))
  have HR0 : Hid (w0.heap[w.heap.size + 3]? = some (.cells #[.int .i64 0, .int .i64 0, .int .i64 0, .int .i64 0, .int .i64 0] 38 (0, 0))) := Lib.hid (by rw [hw0]; have := heap_alloc_new (((w.alloc (.cells #[v] 27)).alloc (.cells #[.int .i64 lo] 3)).alloc (.cells #[.int .i64 hi] 3)) (.cells #[.int .i64 0, .int .i64 0, .int .i64 0, .int .i64 0, .int .i64 0] 38); simpa using this)
  have HZ1 := Lib.hid (fun W (hW : Below w.heap.size w W) (hd : Below w0.heap.size w0 W) => lgbalances_right h ee 74 #[.pointer (some ⟨w.heap.size + 1, 0, none⟩)] (enters_of Try.func74 (by kernel_rfl) rfl) (ereDay lo) v W (hl.below hW) fun d W2 hW2 => by
    have hd2 : Below w0.heap.size w0 W2 := hd.trans (hW2.mono hd.size)
    have := lgStatementC1_any d lo (w.heap.size + 1) W2 (obj_cell (obj_below HF0.out hd2) 0)
    simpa using this)
  have HZ2 := Lib.hid (fun W (hW : Below w.heap.size w W) (hd : Below w0.heap.size w0 W) => lgbalances_right h ee 75 #[.pointer (some ⟨w.heap.size + 1, 0, none⟩), .pointer (some ⟨w.heap.size + 2, 0, none⟩)] (enters_of Try.func75 (by kernel_rfl) rfl) (amidDay lo hi) v W (hl.below hW) fun d W2 hW2 => by
    have hd2 : Below w0.heap.size w0 W2 := hd.trans (hW2.mono hd.size)
    have := lgStatementC2_any d lo hi (w.heap.size + 1) (w.heap.size + 2) W2 (obj_cell (obj_below HF0.out hd2) 0) (obj_cell (obj_below HT0.out hd2) 0)
    simpa using this)
  have HZ3 := Lib.hid (fun W (hW : Below w.heap.size w W) (hd : Below w0.heap.size w0 W) => lgbalances_right h ee 76 #[.pointer (some ⟨w.heap.size + 2, 0, none⟩)] (enters_of Try.func76 (by kernel_rfl) rfl) (byDay hi) v W (hl.below hW) fun d W2 hW2 => by
    have hd2 : Below w0.heap.size w0 W2 := hd.trans (hW2.mono hd.size)
    have := lgStatementC3_any d hi (w.heap.size + 2) W2 (obj_cell (obj_below HT0.out hd2) 0)
    simpa using this)
  have HS := Lib.hid (fun (f : Int → Bool) (c : Int) (b : Nat) W (hm : MapZ W b (2 * l.length) (fun x => ofM ee f x l) (fun x => touchM ee f x l)) => lgsum_cls h ee f c b _ W hm)
  obtain ⟨a1, ha1⟩ : ∃ x, x = clsM ee (byDay hi) 1 l := ⟨_, rfl⟩
  have HNA1 := Lib.hid ha1
  have za1 := clsM_small h ee (byDay hi) 1
  rw [← ha1] at za1
  obtain ⟨a2, ha2⟩ : ∃ x, x = clsM ee (byDay hi) 2 l := ⟨_, rfl⟩
  have HNA2 := Lib.hid ha2
  have za2 := clsM_small h ee (byDay hi) 2
  rw [← ha2] at za2
  obtain ⟨b3, hb3⟩ : ∃ x, x = clsM ee (ereDay lo) 3 l := ⟨_, rfl⟩
  have HNB3 := Lib.hid hb3
  have zb3 := clsM_small h ee (ereDay lo) 3
  rw [← hb3] at zb3
  obtain ⟨b4, hb4⟩ : ∃ x, x = clsM ee (ereDay lo) 4 l := ⟨_, rfl⟩
  have HNB4 := Lib.hid hb4
  have zb4 := clsM_small h ee (ereDay lo) 4
  rw [← hb4] at zb4
  obtain ⟨b5, hb5⟩ : ∃ x, x = clsM ee (ereDay lo) 5 l := ⟨_, rfl⟩
  have HNB5 := Lib.hid hb5
  have zb5 := clsM_small h ee (ereDay lo) 5
  rw [← hb5] at zb5
  obtain ⟨d4, hd4⟩ : ∃ x, x = clsM ee (amidDay lo hi) 4 l := ⟨_, rfl⟩
  have HND4 := Lib.hid hd4
  have zd4 := clsM_small h ee (amidDay lo hi) 4
  rw [← hd4] at zd4
  obtain ⟨d5, hd5⟩ : ∃ x, x = clsM ee (amidDay lo hi) 5 l := ⟨_, rfl⟩
  have HND5 := Lib.hid hd5
  have zd5 := clsM_small h ee (amidDay lo hi) 5
  rw [← hd5] at zd5
  rw [← ha1, ← ha2, ← hb3, ← hb4, ← hb5, ← hd4, ← hd5]
  have hwE := hw0.symm
  have hx := HX0.out
  have u0 := obj_cell hx 0
  simp at u0
  have hwa : IntKind.i64.wrap (-a2) = -a2 := IntWalk.i64_in _ (by omega)
  have hwb : IntKind.i64.wrap (-b3) = -b3 := IntWalk.i64_in _ (by omega)
  have hwc : IntKind.i64.wrap (-b3 - b4) = -b3 - b4 := IntWalk.i64_in _ (by omega)
  have hwd : IntKind.i64.wrap (-b3 - b4 - b5) = -b3 - b4 - b5 := IntWalk.i64_in _ (by omega)
  have hwe : IntKind.i64.wrap (-d4) = -d4 := IntWalk.i64_in _ (by omega)
  clear h hl hw0 hx ha1 ha2 hb3 hb4 hb5 hd4 hd5
  go_enter Try.func55, Try.ntmps55
  go_wp2_with fail
  refine (HCK.out _ HB0.out).mono ?_
  rintro e w1 ⟨rfl, hb1⟩
  have HD1 := Lib.hid hb1
  have HB1 := Lib.hid (HB0.out.trans (hb1.mono HB0.out.size))
  have hx1 := obj_below HX0.out hb1
  have hf1 := obj_below HF0.out hb1
  have ht1 := obj_below HT0.out hb1
  have u1 := obj_cell hx1 0
  have f1 := obj_cell hf1 0
  have t1 := obj_cell ht1 0
  simp at u1 f1 t1
  clear hb1 hx1 hf1 ht1 u0 HCK hwE
  go_wp2_with fail
  refine (lgwithin_yes _ he.1 he.2).mono ?_
  rintro e w' ⟨rfl, rfl⟩
  go_wp2_with fail
  refine (lgwithin_yes _ hlo.1 hlo.2).mono ?_
  rintro e w' ⟨rfl, rfl⟩
  go_wp2_with fail
  refine (lgwithin_yes _ hhi.1 hhi.2).mono ?_
  rintro e w' ⟨rfl, rfl⟩
  go_wp2_with fail
  refine (HZ1.out _ HB1.out HD1.out).mono ?_
  rintro e w2 ⟨m1, rfl, hbb, hm1, hb2⟩
  have HM1 := Lib.hid hm1
  have HD2 := Lib.hid (HD1.out.trans (hb2.mono HD1.out.size))
  have HB2 := Lib.hid (HB1.out.trans (hb2.mono HB1.out.size))
  have HE2 := Lib.hid hb2
  have hx2 := obj_below HX0.out HD2.out
  have u2 := obj_cell hx2 0
  simp at u2
  clear hb2 hbb hm1 hx2 u1 HZ1
  go_wp2_with fail
  refine (HZ2.out _ HB2.out HD2.out).mono ?_
  rintro e w3 ⟨m2, rfl, hbb, hm2, hb3⟩
  have HM2 := Lib.hid hm2
  have HD3 := Lib.hid (HD2.out.trans (hb3.mono HD2.out.size))
  have HB3 := Lib.hid (HB2.out.trans (hb3.mono HB2.out.size))
  have HE3 := Lib.hid hb3
  have hx3 := obj_below HX0.out HD3.out
  have u3 := obj_cell hx3 0
  simp at u3
  clear hb3 hbb hm2 hx3 u2 HZ2
  go_wp2_with fail
  refine (HZ3.out _ HB3.out HD3.out).mono ?_
  rintro e w4 ⟨m3, rfl, hbb, hm3, hb4⟩
  have HM3 := Lib.hid hm3
  have HD4 := Lib.hid (HD3.out.trans (hb4.mono HD3.out.size))
  have HB4 := Lib.hid (HB3.out.trans (hb4.mono HB3.out.size))
  have HE4 := Lib.hid hb4
  have hx4 := obj_below HX0.out HD4.out
  have u4 := obj_cell hx4 0
  simp at u4
  clear hb4 hbb hm3 hx4 u3 HZ3
  have HM1' := Lib.hid ((HM1.out.below HE3.out).below HE4.out)
  have HM2' := Lib.hid (HM2.out.below HE4.out)
  have HM3' := HM3
  clear HM1 HM2 HM3 f1 t1
  go_wp2_with fail
  refine (HS.out (byDay hi) 1 m3 w4 (HM3'.out)).mono ?_
  rintro e w5 ⟨rfl, hb⟩
  rw [← HNA1.out]
  have HQ5 : Hid (Below w4.heap.size w4 w5) := Lib.hid (hb)
  clear hb
  go_wp2_with fail
  refine (HS.out (byDay hi) 2 m3 w5 (HM3'.out.below HQ5.out)).mono ?_
  rintro e w6 ⟨rfl, hb⟩
  rw [← HNA2.out]
  have HQ6 : Hid (Below w4.heap.size w4 w6) := Lib.hid (HQ5.out.trans (hb.mono HQ5.out.size))
  clear hb
  go_wp2_with fail
  refine (HS.out (ereDay lo) 3 m1 w6 (HM1'.out.below HQ6.out)).mono ?_
  rintro e w7 ⟨rfl, hb⟩
  rw [← HNB3.out]
  have HQ7 : Hid (Below w4.heap.size w4 w7) := Lib.hid (HQ6.out.trans (hb.mono HQ6.out.size))
  clear hb
  go_wp2_with fail
  refine (HS.out (ereDay lo) 4 m1 w7 (HM1'.out.below HQ7.out)).mono ?_
  rintro e w8 ⟨rfl, hb⟩
  rw [← HNB4.out]
  have HQ8 : Hid (Below w4.heap.size w4 w8) := Lib.hid (HQ7.out.trans (hb.mono HQ7.out.size))
  clear hb
  go_wp2_with fail
  refine (HS.out (ereDay lo) 5 m1 w8 (HM1'.out.below HQ8.out)).mono ?_
  rintro e w9 ⟨rfl, hb⟩
  rw [← HNB5.out]
  have HQ9 : Hid (Below w4.heap.size w4 w9) := Lib.hid (HQ8.out.trans (hb.mono HQ8.out.size))
  clear hb
  go_wp2_with fail
  refine (HS.out (amidDay lo hi) 4 m2 w9 (HM2'.out.below HQ9.out)).mono ?_
  rintro e w10 ⟨rfl, hb⟩
  rw [← HND4.out]
  have HQ10 : Hid (Below w4.heap.size w4 w10) := Lib.hid (HQ9.out.trans (hb.mono HQ9.out.size))
  clear hb
  go_wp2_with fail
  refine (HS.out (amidDay lo hi) 5 m2 w10 (HM2'.out.below HQ10.out)).mono ?_
  rintro e w11 ⟨rfl, hb⟩
  rw [← HND5.out]
  have HQ11 : Hid (Below w4.heap.size w4 w11) := Lib.hid (HQ10.out.trans (hb.mono HQ10.out.size))
  clear hb
  have HBX := Lib.hid (HD4.out.trans (HQ11.out.mono HD4.out.size))
  have HBW := Lib.hid (HB4.out.trans (HQ11.out.mono HB4.out.size))
  have hre := obj_below HR0.out HBX.out
  have r0 := obj_cell hre 0
  have r1 := obj_cell hre 1
  have r2 := obj_cell hre 2
  have r3 := obj_cell hre 3
  have r4 := obj_cell hre 4
  simp at r0 r1 r2 r3 r4
  have z0 := obj_free hre 0
  have z1 := obj_free hre 1
  have z2 := obj_free hre 2
  have z3 := obj_free hre 3
  have z4 := obj_free hre 4
  have HRE := Lib.hid hre
  clear hre
  go_wp2
  refine ret5 HRE.out rfl _ _ _ _ _ (v := .tuple #[.agg #[.int .i64 a1, .int .i64 (-a2), .int .i64 (-b3 - b4 - b5), .int .i64 (-d4), .int .i64 d5], .int .i64 0]) (fun F hF => ?_) rfl ⟨rfl, put5_below HBW.out (by omega) _ _ _ _ _⟩
  have q0 := obj_cell hF 0
  have q1 := obj_cell hF 1
  have q2 := obj_cell hF 2
  have q3 := obj_cell hF 3
  have q4 := obj_cell hF 4
  simp at q0 q1 q2 q3 q4
  simp [results, Try.results55, go_sem, q0, q1, q2, q3, q4]

end Go.Proofs.Ytoccnindkimjdaa
