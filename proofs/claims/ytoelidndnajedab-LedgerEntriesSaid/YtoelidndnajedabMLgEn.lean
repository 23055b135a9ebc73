/- Contract of package ledger's Entries, for a right account. -/
import Derived.Test.YtoelidndnajedabMLgE
set_option linter.unusedSimpArgs false
set_option linter.unusedVariables false
set_option linter.unusedSimpArgs false
set_option linter.unusedVariables false
namespace Go.Proofs.Ytoelidndnajedab
open Go.RowKit Go.Lib Go.Proofs Go.Maps

set_option maxRecDepth 100000 in
set_option maxHeartbeats 8000000 in
theorem lgEntries_right (a : Acc) (su en : Value) (ent first : Int) (w : World) (hc : checkM a = 0) (h : SubsAt w su a.subs) (he : EntsAt w en a.ents) (hent : 1 ≤ ent ∧ ent ≤ 10) (hf : 1 ≤ first ∧ first ≤ 999600) :
    Calls Try.prog 20 #[.agg #[.int .i64 a.credit, su, en], .int .i64 ent, .int .i64 first] w fun e w' => ∃ u, e = .returned u ∧ w'.ownsRow w.heap.size 37 8 u (entsE ent first a.ents).length (cellsL pstC (entsE ent first a.ents)) ∧ Below w.heap.size w w' := by
  obtain ⟨i0, hi0, hz0, hz1, hz2⟩ := info_parts Try.infoClnPst
  obtain ⟨p1, p2, p3⟩ := plain_credit hc
  have HCK := Lib.hid (fun W (hW : Below w.heap.size w W) => acCheck_any a su en W (h.below hW) (he.below hW) (by omega) (by omega))
  rw [hc] at HCK
  have HOK := Lib.hid (right_ok hc)
  obtain ⟨aE, cE, rfl, hcE, hcs⟩ := (ents_list.1 he).shape entF
  have HCS := Lib.hid hcs
  obtain ⟨n, hn⟩ : ∃ n, n = a.ents.length := ⟨_, rfl⟩
  have HN := Lib.hid hn
  rw [← hn] at HCK hcE p3 ⊢
  have HB0 := Lib.hid (below_alloc w (.cells #[.int .i64 a.credit, su, .slice aE n cE] 56))
  have HX0 := Lib.hid (heap_alloc_new w (.cells #[.int .i64 a.credit, su, .slice aE n cE] 56))
  clear hc h he p1 p2 hcs hn
  go_enter Try.func20, Try.ntmps20
  go_wp2_with fail
  refine (HCK.out _ HB0.out).mono ?_
  rintro e w1 ⟨rfl, hb1⟩
  have HB1 := Lib.hid (HB0.out.trans (hb1.mono HB0.out.size))
  have hx1 := obj_below HX0.out hb1
  have u0 := obj_cell hx1 0
  have u1 := obj_cell hx1 1
  have u2 := obj_cell hx1 2
  simp at u0 u1 u2
  clear hb1 hx1 HCK
  go_wp2_with fail
  refine (lgwithin_yes _ hent.1 hent.2).mono ?_
  rintro e w1 ⟨rfl, rfl⟩
  go_wp2_with fail
  refine (lgwithin_yes _ hf.1 hf.2).mono ?_
  rintro e w1 ⟨rfl, rfl⟩
  obtain ⟨w1, hw1⟩ : ∃ x, x = w1 := ⟨_, rfl⟩
  rw [← hw1] at HB1 u0 u1 u2 ⊢
  clear hw1
  go_wp2
  go_loopw [7, 27] (fun lv i wr => ∃ (k : Nat) (v : Value), lv = v ∧ i = .int .i64 k ∧ k ≤ n ∧ Hid (wr.ownsRow w1.heap.size 37 8 v (entsE ent first (a.ents.take k)).length (cellsL pstC (entsE ent first (a.ents.take k)))) ∧ Hid (Below w1.heap.size w1 wr)) (fun _ i _ => n - (RowKit.intOf i).toNat)
  case atStart => exact ⟨0, _, rfl, rfl, by omega, Lib.hid (World.ownsRow_nil _ _ _ _), Lib.hid (Below.refl _ _)⟩
  case round =>
    obtain ⟨k, v, rfl, rfl, hkn, HO, HB⟩ := hrel
    by_cases hlt : k < n
    · have hkl : k < a.ents.length := by rw [← HN.out]; exact hlt
      obtain ⟨b, o, rfl, hb, hcc⟩ := HCS.out (by omega)
      have HBW := Lib.hid (HB1.out.trans (HB.out.mono HB1.out.size))
      have hbk := fun j (hj : j < 6) => (HBW.out.cell (p := ⟨b, o + k * 6 + j, none⟩) hb).trans (hcc k hkl j hj)
      rw [← entAt_get hkl] at hbk
      have HST : Hid (entsE ent first (a.ents.take (k + 1)) = stepE ent first (entsE ent first (a.ents.take k)) (entAt a.ents k)) := Lib.hid (by rw [List.take_succ_eq_append_getElem hkl, entsE_snoc, entAt_get hkl])
      have hL := entsE_len ent first a.ents k (by omega)
      obtain ⟨L, hLL⟩ : ∃ L, L = (entsE ent first (a.ents.take k)).length := ⟨_, rfl⟩
      have HL := Lib.hid hLL
      rw [← hLL] at HO hL
      obtain ⟨aP, cP, rfl, hcP, -⟩ := owns_gen HO.out
      have hok := HOK.out (entAt a.ents k) (by rw [entAt_get hkl]; exact List.getElem_mem hkl)
      generalize entAt a.ents k = x at *
      obtain ⟨x0, x1, x2, x3, x4, x5⟩ := x
      have c0 : wr.cell? ⟨b, o + k * 6, none⟩ = some (.int .i64 x0) := hbk 0 (by omega)
      have c1 : wr.cell? ⟨b, o + k * 6 + 1, none⟩ = some (.int .i64 x1) := hbk 1 (by omega)
      have c2 : wr.cell? ⟨b, o + k * 6 + 2, none⟩ = some (.int .i64 x2) := hbk 2 (by omega)
      have c3 : wr.cell? ⟨b, o + k * 6 + 3, none⟩ = some (.int .i64 x3) := hbk 3 (by omega)
      have c4 : wr.cell? ⟨b, o + k * 6 + 4, none⟩ = some (.int .i64 x4) := hbk 4 (by omega)
      have c5 : wr.cell? ⟨b, o + k * 6 + 5, none⟩ = some (.int .i64 x5) := hbk 5 (by omega)
      have hk0 : (0 : Int) ≤ (k : Int) := by omega
      have hk1 : (k : Int) < (n : Int) := by omega
      have hwn : IntKind.i64.wrap (first + (L : Int)) = first + (L : Int) := IntWalk.i64_in _ (by omega)
      clear hbk hcc hkl hLL hok
      by_cases h2 : x2 = 0
      · have q2 : (x2 == 0) = true := by rw [beq_iff_eq]; exact h2
        have H2 := Lib.hid h2
        clear h2
        have HPE : Hid (stepE ent first (entsE ent first (a.ents.take k)) ⟨x0, x1, x2, x3, x4, x5⟩ = entsE ent first (a.ents.take k) ++ [⟨first + (L : Int), x1, ent, 110, 410, x4, 0, x5⟩]) := Lib.hid (by
          unfold stepE
          rw [← HL.out]
          unfold postE
          rw [if_pos H2.out])
        obtain ⟨w8, hw8⟩ : ∃ x, x = (wr.alloc (.cells #[.int .i64 x0, .int .i64 x1, .int .i64 x2, .int .i64 x3, .int .i64 x4, .int .i64 x5] 86)).alloc (.cells #[.int .i64 (first + (L : Int)), .int .i64 x1, .int .i64 ent, .int .i64 110, .int .i64 410, .int .i64 x4, .int .i64 0, .int .i64 x5] 37) := ⟨_, rfl⟩
        obtain ⟨bP, hbP⟩ : ∃ x, x = wr.heap.size + 1 := ⟨_, rfl⟩
        have HP8 : Hid (w8.heap[bP]? = some (.cells #[.int .i64 (first + (L : Int)), .int .i64 x1, .int .i64 ent, .int .i64 110, .int .i64 410, .int .i64 x4, .int .i64 0, .int .i64 x5] 37 (0, 0))) := Lib.hid (by rw [hw8, hbP]; exact alloc2_at wr _ _)
        have HB8 : Hid (Below w1.heap.size w1 w8) := Lib.hid (by rw [hw8]; exact HB.out.trans ((below2 wr _ _).mono HB.out.size))
        have HO8 : Hid (w8.ownsRow w1.heap.size 37 8 (.slice aP L cP) L (cellsL pstC (entsE ent first (a.ents.take k)))) := Lib.hid (by rw [hw8]; exact (HO.out.alloc _).alloc _)
        have HW8 := Lib.hid hw8
        have HBP := Lib.hid hbP
        have HSZ : Hid (w1.heap.size ≤ w8.heap.size) := Lib.hid HB8.out.size
        clear hw8 hbP
        go_upto_region 12 with fail
        rw [← HW8.out, ← HBP.out]
        have hpx := HP8.out
        have z0 := obj_cell hpx 0
        have z1 := obj_cell hpx 1
        have z2 := obj_cell hpx 2
        have z3 := obj_cell hpx 3
        have z4 := obj_cell hpx 4
        have z5 := obj_cell hpx 5
        have z6 := obj_cell hpx 6
        have z7 := obj_cell hpx 7
        simp at z0 z1 z2 z3 z4 z5 z6 z7
        clear hpx
        go_wp2_with (at_builtin; refine wpList_append_own _ rfl _ _ 26 rfl w1.heap.size 37 i0 (.agg #[.int .i64 0, .int .i64 0, .int .i64 0, .int .i64 0, .int .i64 0, .int .i64 0, .int .i64 0, .int .i64 0]) 8 64 Try.underlying26 hi0 hz0 hz1 hz2 rfl (by decide) _ _ _ rfl (HO8.out.alloc _) ⟨w8.heap.size, 0, none⟩ 1 1 (pstC ⟨first + (L : Int), x1, ent, 110, 410, x4, 0, x5⟩) rfl rfl (new_cells _ _ _ _ rfl) (pstF.one _) (by unfold maxLen; omega) (by omega) (by have := HSZ.out; simp; omega) ?_; intro v' w9 hown9 hgr9 _)
        have HO9 : Hid (w9.ownsRow w1.heap.size 37 8 v' (entsE ent first (a.ents.take (k + 1))).length (cellsL pstC (entsE ent first (a.ents.take (k + 1))))) := Lib.hid (by
          rw [HST.out, HPE.out, ← cellsL_snoc, List.length_append, ← HL.out]
          exact hown9)
        have HB9 : Hid (Below w1.heap.size w1 w9) := Lib.hid ((HB8.out.alloc HB8.out.size _).grown hgr9 (by have := HSZ.out; simp; omega) fun j e => ownBlock_le HO8.out j e)
        clear hown9 hgr9 z0 z1 z2 z3 z4 z5 z6 z7
        go_wp2
        go_roundw
        case rel => exact ⟨k + 1, v', rfl, by first | rfl | go_num, by omega, HO9, HB9⟩
        case measure => simp [RowKit.intOf]; omega
      · have q2 : (x2 == 0) = false := by rw [beq_eq_false_iff_ne]; exact h2
        have H2 := Lib.hid h2
        clear h2
        by_cases h3 : x3 = 0
        · have q3 : (x3 == 0) = true := by rw [beq_iff_eq]; exact h3
          have H3 := Lib.hid h3
          clear h3
          have HPE : Hid (stepE ent first (entsE ent first (a.ents.take k)) ⟨x0, x1, x2, x3, x4, x5⟩ = entsE ent first (a.ents.take k) ++ [⟨first + (L : Int), x1, ent, 510, 110, x4, 0, x5⟩]) := Lib.hid (by
            unfold stepE
            rw [← HL.out]
            unfold postE
            rw [if_neg H2.out, if_pos H3.out])
          obtain ⟨w8, hw8⟩ : ∃ x, x = (wr.alloc (.cells #[.int .i64 x0, .int .i64 x1, .int .i64 x2, .int .i64 x3, .int .i64 x4, .int .i64 x5] 86)).alloc (.cells #[.int .i64 (first + (L : Int)), .int .i64 x1, .int .i64 ent, .int .i64 510, .int .i64 110, .int .i64 x4, .int .i64 0, .int .i64 x5] 37) := ⟨_, rfl⟩
          obtain ⟨bP, hbP⟩ : ∃ x, x = wr.heap.size + 1 := ⟨_, rfl⟩
          have HP8 : Hid (w8.heap[bP]? = some (.cells #[.int .i64 (first + (L : Int)), .int .i64 x1, .int .i64 ent, .int .i64 510, .int .i64 110, .int .i64 x4, .int .i64 0, .int .i64 x5] 37 (0, 0))) := Lib.hid (by rw [hw8, hbP]; exact alloc2_at wr _ _)
          have HB8 : Hid (Below w1.heap.size w1 w8) := Lib.hid (by rw [hw8]; exact HB.out.trans ((below2 wr _ _).mono HB.out.size))
          have HO8 : Hid (w8.ownsRow w1.heap.size 37 8 (.slice aP L cP) L (cellsL pstC (entsE ent first (a.ents.take k)))) := Lib.hid (by rw [hw8]; exact (HO.out.alloc _).alloc _)
          have HW8 := Lib.hid hw8
          have HBP := Lib.hid hbP
          have HSZ : Hid (w1.heap.size ≤ w8.heap.size) := Lib.hid HB8.out.size
          clear hw8 hbP
          go_upto_region 12 with fail
          rw [← HW8.out, ← HBP.out]
          have hpx := HP8.out
          have z0 := obj_cell hpx 0
          have z1 := obj_cell hpx 1
          have z2 := obj_cell hpx 2
          have z3 := obj_cell hpx 3
          have z4 := obj_cell hpx 4
          have z5 := obj_cell hpx 5
          have z6 := obj_cell hpx 6
          have z7 := obj_cell hpx 7
          simp at z0 z1 z2 z3 z4 z5 z6 z7
          clear hpx
          go_wp2_with (at_builtin; refine wpList_append_own _ rfl _ _ 26 rfl w1.heap.size 37 i0 (.agg #[.int .i64 0, .int .i64 0, .int .i64 0, .int .i64 0, .int .i64 0, .int .i64 0, .int .i64 0, .int .i64 0]) 8 64 Try.underlying26 hi0 hz0 hz1 hz2 rfl (by decide) _ _ _ rfl (HO8.out.alloc _) ⟨w8.heap.size, 0, none⟩ 1 1 (pstC ⟨first + (L : Int), x1, ent, 510, 110, x4, 0, x5⟩) rfl rfl (new_cells _ _ _ _ rfl) (pstF.one _) (by unfold maxLen; omega) (by omega) (by have := HSZ.out; simp; omega) ?_; intro v' w9 hown9 hgr9 _)
          have HO9 : Hid (w9.ownsRow w1.heap.size 37 8 v' (entsE ent first (a.ents.take (k + 1))).length (cellsL pstC (entsE ent first (a.ents.take (k + 1))))) := Lib.hid (by
            rw [HST.out, HPE.out, ← cellsL_snoc, List.length_append, ← HL.out]
            exact hown9)
          have HB9 : Hid (Below w1.heap.size w1 w9) := Lib.hid ((HB8.out.alloc HB8.out.size _).grown hgr9 (by have := HSZ.out; simp; omega) fun j e => ownBlock_le HO8.out j e)
          clear hown9 hgr9 z0 z1 z2 z3 z4 z5 z6 z7
          go_wp2
          go_roundw
          case rel => exact ⟨k + 1, v', rfl, by first | rfl | go_num, by omega, HO9, HB9⟩
          case measure => simp [RowKit.intOf]; omega
        · have q3 : (x3 == 0) = false := by rw [beq_eq_false_iff_ne]; exact h3
          have H3 := Lib.hid h3
          clear h3
          have HPE : Hid (stepE ent first (entsE ent first (a.ents.take k)) ⟨x0, x1, x2, x3, x4, x5⟩ = entsE ent first (a.ents.take k)) := Lib.hid (by
            unfold stepE
            rw [← HL.out]
            unfold postE
            rw [if_neg H2.out, if_neg H3.out])
          have HB8 : Hid (Below w1.heap.size w1 ((wr.alloc (.cells #[.int .i64 x0, .int .i64 x1, .int .i64 x2, .int .i64 x3, .int .i64 x4, .int .i64 x5] 86)).alloc (.cells #[.int .i64 (first + (L : Int)), .int .i64 x1, .int .i64 ent, .int .i64 0, .int .i64 0, .int .i64 x4, .int .i64 0, .int .i64 x5] 37))) := Lib.hid (HB.out.trans ((below2 wr _ _).mono HB.out.size))
          have HO8 : Hid (((wr.alloc (.cells #[.int .i64 x0, .int .i64 x1, .int .i64 x2, .int .i64 x3, .int .i64 x4, .int .i64 x5] 86)).alloc (.cells #[.int .i64 (first + (L : Int)), .int .i64 x1, .int .i64 ent, .int .i64 0, .int .i64 0, .int .i64 x4, .int .i64 0, .int .i64 x5] 37)).ownsRow w1.heap.size 37 8 (.slice aP L cP) (entsE ent first (a.ents.take (k + 1))).length (cellsL pstC (entsE ent first (a.ents.take (k + 1))))) := Lib.hid (by
            rw [HST.out, HPE.out, ← HL.out]
            exact (HO.out.alloc _).alloc _)
          go_wp2
          go_roundw
          case rel => exact ⟨k + 1, _, rfl, by first | rfl | go_num, by omega, HO8, HB8⟩
          case measure => simp [RowKit.intOf]; omega
    · obtain rfl : k = n := by omega
      rw [show a.ents.take k = a.ents by rw [HN.out, List.take_length]] at HO
      go_wp2
      go_ret
      exact ⟨_, rfl, ownsRow_mono HO.out HB1.out.size, HB1.out.trans (HB.out.mono HB1.out.size)⟩

end Go.Proofs.Ytoelidndnajedab
