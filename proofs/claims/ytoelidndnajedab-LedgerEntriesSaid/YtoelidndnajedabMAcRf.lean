/- The reference's At and Flow, of any account. -/
import Derived.Test.YtoelidndnajedabMAcZ
import Derived.Test.YtoelidndnajedabMAcC
set_option linter.unusedSimpArgs false
set_option linter.unusedVariables false
set_option linter.unusedSimpArgs false
set_option linter.unusedVariables false
namespace Go.Proofs.Ytoelidndnajedab
open Go.RowKit Go.Lib Go.Proofs

theorem plain_credit {a : Acc} (h : checkM a = 0) : amtB a.credit = true ∧ a.subs.length ≤ 20 ∧ a.ents.length ≤ 400 := by
  obtain ⟨h1, h2, h3, _, _⟩ := checkM_zero.1 h
  unfold plainM at h3
  rw [Bool.and_eq_true] at h3
  exact ⟨h3.1, h1, h2⟩
def RAtPost (w : World) (a : Acc) (day : Int) (e : Ending) (w' : World) : Prop :=
  if checkM a = 0 then ∃ m v, untilM a.credit day a.ents (emptyM a.subs) Ent.zero = .ok m ∧ e = .returned v ∧ w'.ownsRow w.heap.size 62 2 v m.length (cellsU m) ∧ Below w.heap.size w w'
  else e = .returned (.slice none 0 0) ∧ Below w.heap.size w w'

set_option maxHeartbeats 4000000 in
theorem raAt_any (a : Acc) (su en : Value) (day : Int) (w : World) (h : SubsAt w su a.subs) (he : EntsAt w en a.ents) (hlen : a.subs.length ≤ 1000000) (hlen2 : a.ents.length ≤ 1000000) :
    Calls Try.prog 22 #[.agg #[.int .i64 a.credit, su, en], .int .i64 day] w (RAtPost w a day) := by
  have HCK := Lib.hid (fun W (hW : Below w.heap.size w W) => raCheck_any a su en W (h.below hW) (he.below hW) hlen hlen2)
  have HB0 := Lib.hid (below_alloc w (.cells #[.int .i64 a.credit, su, en] 56))
  have HX0 := Lib.hid (heap_alloc_new w (.cells #[.int .i64 a.credit, su, en] 56))
  by_cases hc : checkM a = 0
  case neg =>
    rw [show RAtPost w a day = fun e w' => e = .returned (.slice none 0 0) ∧ Below w.heap.size w w' by funext e w'; unfold RAtPost; rw [if_neg hc]]
    generalize checkM a = c at *
    have hc1 : (c == 0) = false := by rw [beq_eq_false_iff_ne]; exact hc
    have hc2 : (c != 0) = true := by rw [bne, hc1]; rfl
    clear hc h he
    go_enter Try.func22, Try.ntmps22
    go_wp2_with fail
    refine (HCK.out _ HB0.out).mono ?_
    rintro e w1 ⟨rfl, hb1⟩
    have HB1 := Lib.hid (HB0.out.trans (hb1.mono HB0.out.size))
    clear hb1
    go_wp2
    go_ret
    exact ⟨rfl, HB1.out⟩
  obtain ⟨p1, p2, p3⟩ := plain_credit hc
  obtain ⟨m, hm, -, -, -⟩ := right_day hc day
  have HUN : Hid (∀ W, Below w.heap.size w W → Calls Try.prog 49 #[.agg #[.int .i64 a.credit, su, en], .int .i64 day] W fun e w' => ∃ v, e = .returned (.tuple #[v, .int .i64 0]) ∧ w'.ownsRow W.heap.size 62 2 v m.length (cellsU m) ∧ Below W.heap.size W w') := Lib.hid fun W hW => by
    have g := rauntil_any a su en day W (h.below hW) (he.below hW) (by omega) hlen2 p1
    rw [hm] at g
    exact g
  rw [show RAtPost w a day = fun e w' => ∃ m v, untilM a.credit day a.ents (emptyM a.subs) Ent.zero = .ok m ∧ e = .returned v ∧ w'.ownsRow w.heap.size 62 2 v m.length (cellsU m) ∧ Below w.heap.size w w' by funext e w'; unfold RAtPost; rw [if_pos hc]]
  rw [hc] at HCK
  have HM := Lib.hid hm
  clear hc h he hm p1 p2 p3
  go_enter Try.func22, Try.ntmps22
  go_wp2_with fail
  refine (HCK.out _ HB0.out).mono ?_
  rintro e w1 ⟨rfl, hb1⟩
  have HB1 := Lib.hid (HB0.out.trans (hb1.mono HB0.out.size))
  have hx1 := obj_below HX0.out hb1
  have u0 := obj_cell hx1 0
  have u1 := obj_cell hx1 1
  have u2 := obj_cell hx1 2
  simp at u0 u1 u2
  clear hb1 hx1
  go_wp2_with fail
  refine (HUN.out _ HB1.out).mono ?_
  rintro e w2 ⟨v, rfl, ho, hb2⟩
  have HO := Lib.hid ho
  have HB2 := Lib.hid (HB1.out.trans (hb2.mono HB1.out.size))
  clear ho hb2 u0 u1 u2
  go_wp2
  go_ret
  exact ⟨m, v, HM.out, rfl, ownsRow_mono HO.out HB1.out.size, HB2.out⟩

theorem flow_take {lo hi : Int} {l : List Ent} (k : Nat) (hk : k < l.length) : flowI lo hi (l.take (k + 1)) = flowI lo hi (l.take k) + (if lo ≤ (entAt l k).day ∧ (entAt l k).day ≤ hi then inE (entAt l k) else 0) ∧ flowO lo hi (l.take (k + 1)) = flowO lo hi (l.take k) + (if lo ≤ (entAt l k).day ∧ (entAt l k).day ≤ hi then outE (entAt l k) else 0) := by
  rw [List.take_succ_eq_append_getElem hk, entAt_get hk, flowI_snoc, flowO_snoc]
  exact ⟨rfl, rfl⟩

set_option maxRecDepth 100000 in
set_option maxHeartbeats 8000000 in
theorem raFlow_any (a : Acc) (su en : Value) (lo hi : Int) (w : World) (h : SubsAt w su a.subs) (he : EntsAt w en a.ents) (hlen : a.subs.length ≤ 1000000) (hlen2 : a.ents.length ≤ 1000000) :
    Calls Try.prog 23 #[.agg #[.int .i64 a.credit, su, en], .int .i64 lo, .int .i64 hi] w fun e w' => e = .returned (.tuple #[.int .i64 (flowM a lo hi).1, .int .i64 (flowM a lo hi).2]) ∧ Below w.heap.size w w' := by
  have HCK := Lib.hid (fun W (hW : Below w.heap.size w W) => raCheck_any a su en W (h.below hW) (he.below hW) hlen hlen2)
  have HB0 := Lib.hid (below_alloc w (.cells #[.int .i64 a.credit, su, en] 56))
  have HX0 := Lib.hid (heap_alloc_new w (.cells #[.int .i64 a.credit, su, en] 56))
  by_cases hc : checkM a = 0
  case neg =>
    unfold flowM
    rw [if_neg hc]
    generalize checkM a = c at *
    have hc1 : (c == 0) = false := by rw [beq_eq_false_iff_ne]; exact hc
    have hc2 : (c != 0) = true := by rw [bne, hc1]; rfl
    clear hc h he
    go_enter Try.func23, Try.ntmps23
    go_wp2_with fail
    refine (HCK.out _ HB0.out).mono ?_
    rintro e w1 ⟨rfl, hb1⟩
    have HB1 := Lib.hid (HB0.out.trans (hb1.mono HB0.out.size))
    clear hb1
    go_wp2
    go_ret2
    exact ⟨rfl, HB1.out⟩
  obtain ⟨p1, p2, p3⟩ := plain_credit hc
  have HAM := Lib.hid (right_amt hc)
  unfold flowM
  rw [if_pos hc]
  rw [hc] at HCK
  obtain ⟨r1, hr1⟩ : ∃ r, r = flowI lo hi a.ents := ⟨_, rfl⟩
  obtain ⟨r2, hr2⟩ : ∃ r, r = flowO lo hi a.ents := ⟨_, rfl⟩
  simp only
  rw [← hr1, ← hr2]
  have HR1 := Lib.hid hr1
  have HR2 := Lib.hid hr2
  obtain ⟨aE, cE, rfl, hcE, hcs⟩ := (ents_list.1 he).shape entF
  have HCS := Lib.hid hcs
  obtain ⟨n, hn⟩ : ∃ n, n = a.ents.length := ⟨_, rfl⟩
  have HN := Lib.hid hn
  rw [← hn] at HCK HB0 HX0 hcE p3 ⊢
  clear hc h he p1 p2 hr1 hr2 hcs hn
  go_enter Try.func23, Try.ntmps23
  go_wp2_with fail
  refine (HCK.out _ HB0.out).mono ?_
  rintro e w1 ⟨rfl, hb1⟩
  have HB1 := Lib.hid (HB0.out.trans (hb1.mono HB0.out.size))
  have hx1 := obj_below HX0.out hb1
  have u0 := obj_cell hx1 0
  have u1 := obj_cell hx1 1
  have u2 := obj_cell hx1 2
  simp at u0 u1 u2
  clear hb1 hx1
  go_wp2
  go_loopw [8, 9, 18] (fun x y i wr => ∃ (k : Nat) (s t : Int), x = .int .i64 s ∧ y = .int .i64 t ∧ i = .int .i64 k ∧ k ≤ n ∧ Hid (s = flowI lo hi (a.ents.take k)) ∧ Hid (t = flowO lo hi (a.ents.take k)) ∧ (0 ≤ s ∧ s ≤ 1000000000000 * (k : Int)) ∧ (0 ≤ t ∧ t ≤ 1000000000000 * (k : Int)) ∧ Hid (Below w1.heap.size w1 wr)) (fun _ _ i _ => n - (RowKit.intOf i).toNat)
  case atStart => exact ⟨0, 0, 0, rfl, rfl, rfl, by omega, Lib.hid rfl, Lib.hid rfl, by simp, by simp, Lib.hid (Below.refl _ _)⟩
  case round =>
    obtain ⟨k, s, t, rfl, rfl, rfl, hkn, HS, HT, hs, ht, HB⟩ := hrel
    by_cases hlt : k < n
    · have hkl : k < a.ents.length := by rw [← HN.out]; exact hlt
      obtain ⟨b, o, rfl, hb, hcc⟩ := HCS.out (by omega)
      have HBW := Lib.hid (HB1.out.trans (HB.out.mono HB1.out.size))
      have hbk := fun j (hj : j < 6) => (HBW.out.cell (p := ⟨b, o + k * 6 + j, none⟩) hb).trans (hcc k hkl j hj)
      rw [← entAt_get hkl] at hbk
      have HST := Lib.hid (flow_take (lo := lo) (hi := hi) k hkl)
      have hamt := HAM.out (entAt a.ents k) (by rw [entAt_get hkl]; exact List.getElem_mem hkl)
      have hkk : k ≤ 400 := by omega
      generalize entAt a.ents k = x at *
      obtain ⟨x0, x1, x2, x3, x4, x5⟩ := x
      have c0 : wr.cell? ⟨b, o + k * 6, none⟩ = some (.int .i64 x0) := hbk 0 (by omega)
      have c1 : wr.cell? ⟨b, o + k * 6 + 1, none⟩ = some (.int .i64 x1) := hbk 1 (by omega)
      have c2 : wr.cell? ⟨b, o + k * 6 + 2, none⟩ = some (.int .i64 x2) := hbk 2 (by omega)
      have c3 : wr.cell? ⟨b, o + k * 6 + 3, none⟩ = some (.int .i64 x3) := hbk 3 (by omega)
      have c4 : wr.cell? ⟨b, o + k * 6 + 4, none⟩ = some (.int .i64 x4) := hbk 4 (by omega)
      have c5 : wr.cell? ⟨b, o + k * 6 + 5, none⟩ = some (.int .i64 x5) := hbk 5 (by omega)
      simp only at hamt HST
      have HB3 := Lib.hid (HB.out.alloc (Below.size HB.out) (.cells #[.int .i64 x0, .int .i64 x1, .int .i64 x2, .int .i64 x3, .int .i64 x4, .int .i64 x5] 86))
      have hk0 : (0 : Int) ≤ (k : Int) := by omega
      have hk1 : (k : Int) < (n : Int) := by omega
      have hw1 : IntKind.i64.wrap (s + x4) = s + x4 := IntWalk.i64_in _ (by omega)
      have hw2 : IntKind.i64.wrap (t + x4) = t + x4 := IntWalk.i64_in _ (by omega)
      clear hbk hcc
      by_cases q0 : x1 < lo
      · have HNO : Hid (¬ (lo ≤ x1 ∧ x1 ≤ hi)) := Lib.hid (by omega)
        go_wp2
        go_roundw
        case rel => exact ⟨k + 1, s, t, rfl, rfl, by first | rfl | go_num, by omega, Lib.hid (by rw [HST.out.1, if_neg HNO.out, ← HS.out]; omega), Lib.hid (by rw [HST.out.2, if_neg HNO.out, ← HT.out]; omega), by omega, by omega, HB3⟩
        case measure => simp [RowKit.intOf]; omega
      · by_cases q1 : hi < x1
        · have HNO : Hid (¬ (lo ≤ x1 ∧ x1 ≤ hi)) := Lib.hid (by omega)
          go_wp2
          go_roundw
          case rel => exact ⟨k + 1, s, t, rfl, rfl, by first | rfl | go_num, by omega, Lib.hid (by rw [HST.out.1, if_neg HNO.out, ← HS.out]; omega), Lib.hid (by rw [HST.out.2, if_neg HNO.out, ← HT.out]; omega), by omega, by omega, HB3⟩
          case measure => simp [RowKit.intOf]; omega
        · have HLO : Hid (lo ≤ x1) := Lib.hid (by omega)
          have HHI : Hid (x1 ≤ hi) := Lib.hid (by omega)
          by_cases h2 : x2 = 0
          · have q2 : (x2 == 0) = true := by rw [beq_iff_eq]; exact h2
            have HI : Hid (inE ⟨x0, x1, x2, x3, x4, x5⟩ = x4) := Lib.hid (if_pos h2)
            clear h2
            by_cases h3 : x3 = 0
            · have q3 : (x3 == 0) = true := by rw [beq_iff_eq]; exact h3
              have HO : Hid (outE ⟨x0, x1, x2, x3, x4, x5⟩ = x4) := Lib.hid (if_pos h3)
              clear h3
              go_wp2
              go_roundw
              case rel => exact ⟨k + 1, s + x4, t + x4, rfl, rfl, by first | rfl | go_num, by omega, Lib.hid (by rw [HST.out.1, if_pos ⟨HLO.out, HHI.out⟩, HI.out, ← HS.out]), Lib.hid (by rw [HST.out.2, if_pos ⟨HLO.out, HHI.out⟩, HO.out, ← HT.out]), by omega, by omega, HB3⟩
              case measure => simp [RowKit.intOf]; omega
            · have q3 : (x3 == 0) = false := by rw [beq_eq_false_iff_ne]; exact h3
              have HO : Hid (outE ⟨x0, x1, x2, x3, x4, x5⟩ = 0) := Lib.hid (if_neg h3)
              clear h3
              go_wp2
              go_roundw
              case rel => exact ⟨k + 1, s + x4, t, rfl, rfl, by first | rfl | go_num, by omega, Lib.hid (by rw [HST.out.1, if_pos ⟨HLO.out, HHI.out⟩, HI.out, ← HS.out]), Lib.hid (by rw [HST.out.2, if_pos ⟨HLO.out, HHI.out⟩, HO.out, ← HT.out]; omega), by omega, by omega, HB3⟩
              case measure => simp [RowKit.intOf]; omega
          · have q2 : (x2 == 0) = false := by rw [beq_eq_false_iff_ne]; exact h2
            have HI : Hid (inE ⟨x0, x1, x2, x3, x4, x5⟩ = 0) := Lib.hid (if_neg h2)
            clear h2
            by_cases h3 : x3 = 0
            · have q3 : (x3 == 0) = true := by rw [beq_iff_eq]; exact h3
              have HO : Hid (outE ⟨x0, x1, x2, x3, x4, x5⟩ = x4) := Lib.hid (if_pos h3)
              clear h3
              go_wp2
              go_roundw
              case rel => exact ⟨k + 1, s, t + x4, rfl, rfl, by first | rfl | go_num, by omega, Lib.hid (by rw [HST.out.1, if_pos ⟨HLO.out, HHI.out⟩, HI.out, ← HS.out]; omega), Lib.hid (by rw [HST.out.2, if_pos ⟨HLO.out, HHI.out⟩, HO.out, ← HT.out]), by omega, by omega, HB3⟩
              case measure => simp [RowKit.intOf]; omega
            · have q3 : (x3 == 0) = false := by rw [beq_eq_false_iff_ne]; exact h3
              have HO : Hid (outE ⟨x0, x1, x2, x3, x4, x5⟩ = 0) := Lib.hid (if_neg h3)
              clear h3
              go_wp2
              go_roundw
              case rel => exact ⟨k + 1, s, t, rfl, rfl, by first | rfl | go_num, by omega, Lib.hid (by rw [HST.out.1, if_pos ⟨HLO.out, HHI.out⟩, HI.out, ← HS.out]; omega), Lib.hid (by rw [HST.out.2, if_pos ⟨HLO.out, HHI.out⟩, HO.out, ← HT.out]; omega), by omega, by omega, HB3⟩
              case measure => simp [RowKit.intOf]; omega
    · obtain rfl : k = n := by omega
      obtain rfl : s = r1 := by rw [HS.out, HR1.out, HN.out, List.take_length]
      obtain rfl : t = r2 := by rw [HT.out, HR2.out, HN.out, List.take_length]
      go_wp2
      go_ret2
      exact ⟨rfl, HB1.out.trans (HB.out.mono HB1.out.size)⟩

end Go.Proofs.Ytoelidndnajedab
