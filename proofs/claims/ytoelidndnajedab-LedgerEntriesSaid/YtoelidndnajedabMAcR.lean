/- Contracts of the account's reference: its small functions. -/
import Derived.Test.YtoelidndnajedabMG5
import Derived.Test.YtoelidndnajedabMG1
set_option linter.unusedSimpArgs false
set_option linter.unusedVariables false
namespace Go.Proofs.Ytoelidndnajedab
open Go.RowKit Go.Lib Go.Proofs

set_option maxHeartbeats 400000 in
theorem rvValid_any (n : Int) (w : World) : Calls Try.prog 56 #[.int .i64 n] w fun e w' => e = .returned (.bool (amtB n)) ∧ w = w' := by
  by_cases h0 : 0 ≤ n
  · by_cases h1 : n ≤ 1000000000000
    · rw [show amtB n = true from inB_true.2 ⟨h0, h1⟩]
      go_enter Try.func56, Try.ntmps56
      go_wp2
      go_ret
      exact ⟨rfl, rfl⟩
    · rw [show amtB n = false from inB_false.2 (fun h => h1 h.2)]
      go_enter Try.func56, Try.ntmps56
      go_wp2
      go_ret
      exact ⟨rfl, rfl⟩
  · rw [show amtB n = false from inB_false.2 (fun h => h0 h.1)]
    go_enter Try.func56, Try.ntmps56
    go_wp2
    go_ret
    exact ⟨rfl, rfl⟩

set_option maxHeartbeats 400000 in
theorem raday_any (n : Int) (w : World) : Calls Try.prog 63 #[.int .i64 n] w fun e w' => e = .returned (.bool (dayB' n)) ∧ w = w' := by
  by_cases h0 : 0 ≤ n
  · by_cases h1 : n ≤ 36000
    · rw [show dayB' n = true from inB_true.2 ⟨h0, h1⟩]
      go_enter Try.func63, Try.ntmps63
      go_wp2
      go_ret
      exact ⟨rfl, rfl⟩
    · rw [show dayB' n = false from inB_false.2 (fun h => h1 h.2)]
      go_enter Try.func63, Try.ntmps63
      go_wp2
      go_ret
      exact ⟨rfl, rfl⟩
  · rw [show dayB' n = false from inB_false.2 (fun h => h0 h.1)]
    go_enter Try.func63, Try.ntmps63
    go_wp2
    go_ret
    exact ⟨rfl, rfl⟩

theorem atI_some {l : List SubA} {id : Int} {k : Nat} (hk : k < l.length) (h1 : ∀ j, j < k → (subAt l j).id ≠ id) (h2 : (subAt l k).id = id) : atI l id = (k : Int) := by
  unfold atI
  rw [atS_mk hk h2 h1]
theorem atI_none {l : List SubA} {id : Int} (h1 : ∀ j, j < l.length → (subAt l j).id ≠ id) : atI l id = -1 := by
  unfold atI
  rw [atS_none.2 fun s hs e => by
    obtain ⟨j, hj, rfl⟩ := List.getElem_of_mem hs
    exact h1 j hj (by rw [subAt_get hj]; exact e)]

set_option maxHeartbeats 1000000 in
theorem raat_any (v : Value) (l : List SubA) (id : Int) (w : World) (h : SubsAt w v l) (hlen : l.length ≤ 1000000) :
    Calls Try.prog 70 #[v, .int .i64 id] w fun e w' => e = .returned (.int .i64 (atI l id)) ∧ Below w.heap.size w w' := by
  obtain ⟨n, hn⟩ : ∃ n, n = l.length := ⟨_, rfl⟩
  have HN := Lib.hid hn
  rcases h.open with ⟨rfl, ao, cap, rfl⟩ | ⟨hpos, b, o, cap, rfl, hcap, hb, hc⟩
  · clear hn h hlen HN
    go_enter Try.func70, Try.ntmps70
    go_wp2
    go_loop [9] (fun i => i = .int .i64 0) (fun _ => 0)
    case atStart => rfl
    case round =>
      subst hrel
      go_wp2
      go_ret
      exact ⟨rfl, Below.refl _ _⟩
  · have HC := Lib.hid hc
    rw [← hn] at hpos hcap hlen ⊢
    clear hn hc h
    go_enter Try.func70, Try.ntmps70
    go_wp2
    go_loopw [9] (fun i wr => ∃ k : Nat, i = .int .i64 k ∧ k ≤ n ∧ Hid (∀ j, j < k → (subAt l j).id ≠ id) ∧ Hid (Below w.heap.size w wr)) (fun i _ => n - (RowKit.intOf i).toNat)
    case atStart => exact ⟨0, rfl, by omega, Lib.hid (fun j hj => by omega), Lib.hid (Below.refl _ _)⟩
    case round =>
      obtain ⟨k, rfl, hkn, HF, HB⟩ := hrel
      by_cases hlt : k < n
      · have hkl : k < l.length := by rw [← HN.out]; exact hlt
        have c0 : wr.cell? ⟨b, o + k * 2, none⟩ = some (.int .i64 (subAt l k).id) := (HB.out.cell (p := ⟨b, o + k * 2, none⟩) hb).trans (HC.out k hkl).1
        have c1 : wr.cell? ⟨b, o + k * 2 + 1, none⟩ = some (.int .i64 (subAt l k).bal) := (HB.out.cell (p := ⟨b, o + k * 2 + 1, none⟩) hb).trans (HC.out k hkl).2
        have hk0 : (0 : Int) ≤ (k : Int) := by omega
        have hk1 : (k : Int) < (n : Int) := by omega
        obtain ⟨x, hx⟩ : ∃ x, x = (subAt l k).id := ⟨_, rfl⟩
        have HX := Lib.hid hx
        rw [← hx] at c0
        generalize (subAt l k).bal = y at *
        have HB2 := Lib.hid (HB.out.alloc HB.out.size (.cells #[.int .i64 x, .int .i64 y] 62))
        clear hx
        by_cases he : x = id
        · have he1 : (x == id) = true := by rw [beq_iff_eq]; exact he
          have hr : Hid (atI l id = (k : Int)) := Lib.hid (atI_some hkl HF.out (HX.out.symm.trans he))
          clear he
          go_wp2
          go_ret
          exact ⟨ret_int hr.out.symm, HB2.out⟩
        · have he1 : (x == id) = false := by rw [beq_eq_false_iff_ne]; exact he
          have HF2 : Hid (∀ j, j < k + 1 → (subAt l j).id ≠ id) := Lib.hid fun j hj => by
            rcases (by omega : j < k ∨ j = k) with hj | rfl
            · exact HF.out j hj
            · rw [← HX.out]; exact he
          clear he
          go_wp2
          go_roundw
          case rel => exact ⟨k + 1, by first | rfl | go_num, by omega, HF2, HB2⟩
          case measure => simp [RowKit.intOf]; omega
      · obtain rfl : k = n := by omega
        have hr : Hid (atI l id = -1) := Lib.hid (atI_none fun j hj => HF.out j (by rw [HN.out]; exact hj))
        go_wp2
        go_ret
        exact ⟨ret_int hr.out.symm, HB.out⟩

theorem lastE_at {l : List Ent} {m : Nat} (h : l.length = m + 1) : lastE l = entAt l m := by
  unfold lastE entAt
  rw [List.getLast?_eq_getElem?, h, Nat.add_sub_cancel, List.getD_eq_getElem?_getD]

set_option maxHeartbeats 1000000 in
theorem ralast_any (es : List Ent) (cr : Int) (su en : Value) (w : World) (h : EntsAt w en es) (hlen : es.length ≤ 1000000) :
    Calls Try.prog 59 #[.agg #[.int .i64 cr, su, en]] w fun e w' => e = .returned (.agg (lastE es).cells.toArray) ∧ Below w.heap.size w w' := by
  rcases h.open with ⟨rfl, ao, cap, rfl⟩ | ⟨hpos, b, o, cap, rfl, hcap, hb, hc⟩
  · clear h hlen
    go_enter Try.func59, Try.ntmps59
    go_wp2
    exact retB (alloc2_at w _ _) (fun F hF => by
      have q0 := obj_cell hF 0
      have q1 := obj_cell hF 1
      have q2 := obj_cell hF 2
      have q3 := obj_cell hF 3
      have q4 := obj_cell hF 4
      have q5 := obj_cell hF 5
      simp [results, Try.results59, go_sem, q0, q1, q2, q3, q4, q5]
      rfl) rfl ⟨rfl, below2 w _ _⟩
  · obtain ⟨m, hm⟩ : ∃ m, es.length = m + 1 := ⟨es.length - 1, by omega⟩
    have hl : lastE es = entAt es m := lastE_at hm
    rw [hl]
    have hcm := hc m (by omega)
    generalize entAt es m = x at *
    obtain ⟨x0, x1, x2, x3, x4, x5⟩ := x
    rw [hm] at hcap hlen ⊢
    have c0 := hcm 0 (by omega)
    have c1 := hcm 1 (by omega)
    have c2 := hcm 2 (by omega)
    have c3 := hcm 3 (by omega)
    have c4 := hcm 4 (by omega)
    have c5 := hcm 5 (by omega)
    simp [Ent.cells] at c0 c1 c2 c3 c4 c5
    have hm0 : (0 : Int) ≤ (m : Int) := by omega
    clear hcm hc hl hm h hpos
    go_enter Try.func59, Try.ntmps59
    go_wp2
    exact retB (alloc2_at w _ _) (fun F hF => by
      have q0 := obj_cell hF 0
      have q1 := obj_cell hF 1
      have q2 := obj_cell hF 2
      have q3 := obj_cell hF 3
      have q4 := obj_cell hF 4
      have q5 := obj_cell hF 5
      simp [results, Try.results59, go_sem, q0, q1, q2, q3, q4, q5]
      rfl) rfl ⟨rfl, below2 w _ _⟩

theorem field_number (x0 x1 x2 x3 x4 x5 : Int) (W : World) : (Instr.field 86 (.agg #[.int .i64 x0, .int .i64 x1, .int .i64 x2, .int .i64 x3, .int .i64 x4, .int .i64 x5]) 0).run Try.prog W = .ok (.int .i64 x0) W := by kernel_rfl

set_option maxHeartbeats 1000000 in
theorem raNext_any (es : List Ent) (cr : Int) (su en : Value) (d f t am r : Int) (w : World) (h : EntsAt w en es) (hlen : es.length ≤ 1000000) (n0 : -1000000000 ≤ (lastE es).number) (n1 : (lastE es).number ≤ 1000000000) :
    Calls Try.prog 44 #[.agg #[.int .i64 cr, su, en], .int .i64 d, .int .i64 f, .int .i64 t, .int .i64 am, .int .i64 r] w fun e w' => e = .returned (.agg (nextM es d f t am r).cells.toArray) ∧ Below w.heap.size w w' := by
  have HL := Lib.hid (ralast_any es cr su en ((w.alloc (.cells #[.int .i64 cr, su, en] 56)).alloc (.cells #[.int .i64 0, .int .i64 0, .int .i64 0, .int .i64 0, .int .i64 0, .int .i64 0] 86)) (h.below (below2 w _ _)) hlen)
  unfold nextM
  generalize lastE es = x at *
  obtain ⟨x0, x1, x2, x3, x4, x5⟩ := x
  have hfd := field_number x0 x1 x2 x3 x4 x5
  simp only [Ent.cells] at HL n0 n1 ⊢
  clear h hlen
  go_enter Try.func44, Try.ntmps44
  go_wp2_with fail
  refine (HL.out).mono ?_
  rintro e w1 ⟨rfl, hb1⟩
  have h1 := obj_below (alloc2_at w (.cells #[.int .i64 cr, su, en] 56) (.cells #[.int .i64 0, .int .i64 0, .int .i64 0, .int .i64 0, .int .i64 0, .int .i64 0] 86)) hb1
  have HB1 := Lib.hid ((below2 w (.cells #[.int .i64 cr, su, en] 56) (.cells #[.int .i64 0, .int .i64 0, .int .i64 0, .int .i64 0, .int .i64 0, .int .i64 0] 86)).trans (hb1.mono (by simp; omega)))
  have H1 := Lib.hid h1
  have u0 := obj_cell h1 0
  have u1 := obj_cell h1 1
  have u2 := obj_cell h1 2
  have u3 := obj_cell h1 3
  have u4 := obj_cell h1 4
  have u5 := obj_cell h1 5
  have f0 := obj_free h1 0
  have f1 := obj_free h1 1
  have f2 := obj_free h1 2
  have f3 := obj_free h1 3
  have f4 := obj_free h1 4
  have f5 := obj_free h1 5
  simp at u0 u1 u2 u3 u4 u5
  clear h1 hb1 HL
  go_wp2
  show bodyPost Try.prog Try.f44 _ Exit.ret _ (put6 w1 (w.heap.size + 1) (.int .i64 (x0 + 1)) (.int .i64 d) (.int .i64 f) (.int .i64 t) (.int .i64 am) (.int .i64 r))
  exact ret6 H1.out rfl _ _ _ _ _ _ (fun F hF => by
    have q0 := obj_cell hF 0
    have q1 := obj_cell hF 1
    have q2 := obj_cell hF 2
    have q3 := obj_cell hF 3
    have q4 := obj_cell hF 4
    have q5 := obj_cell hF 5
    simp [results, Try.results44, go_sem, q0, q1, q2, q3, q4, q5]) rfl ⟨rfl, put6_below HB1.out (by omega) _ _ _ _ _ _⟩

end Go.Proofs.Ytoelidndnajedab
