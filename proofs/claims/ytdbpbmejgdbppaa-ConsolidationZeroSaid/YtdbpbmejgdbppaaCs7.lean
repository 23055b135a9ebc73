/- Consolidated balances add up to 0, and stand in their order; what is not between entities is the sum of theirs: the walk. -/
import Derived.Test.YtdbpbmejgdbppaaCs6
set_option linter.unusedSimpArgs false
set_option linter.unusedVariables false
namespace Go.Proofs.Ytdbpbmejgdbppaa
open Go.RowKit Go.Lib Go.Proofs Go.Maps

set_option maxRecDepth 100000 in
set_option maxHeartbeats 32000000 in
theorem cszero_any (v : Value) (n : Nat) (a : Int) (w : World) (hi : IntsAt w v n w.heap.size) (hn : n ≤ 9223372036854775807) (ha : 0 ≤ a) (ha1 : a ≤ 255) :
    Calls Try.prog 6 #[v, .int .u8 a] w fun e w' => e = .returned (.bool true) ∧ Below w.heap.size w w' := by
  have HNEW := Lib.hid (sNew_any v n w hi hn)
  have HSN := Lib.hid sane43_true
  obtain ⟨k, hk⟩ : ∃ m, a.tmod 70 = m := ⟨_, rfl⟩
  have hk0 : 0 ≤ k := by rw [← hk]; exact Int.tmod_nonneg _ ha
  have hk1 : k < 70 := by rw [← hk]; exact Int.tmod_lt_of_pos _ (by omega)
  have hwa : IntKind.i64.wrap a = a := IntWalk.i64_in _ (by omega)
  have hwk : IntKind.i64.wrap k = k := IntWalk.i64_in _ (by omega)
  clear hi hn
  go_enter Try.func6, Try.ntmps6
  go_wp2_with fail
  refine (HNEW.out).mono ?_
  rintro e w1 ⟨rfl, t1, b1⟩
  obtain ⟨tb, htb⟩ : ∃ tb, tb = w.heap.size := ⟨_, rfl⟩
  rw [← htb] at t1 ⊢
  have HLG := Lib.hid (sLedger_any tb 12 3 60 w1 t1 (by omega) (by omega) (by omega))
  have HW1 := Lib.hid b1
  have HTB := Lib.hid htb
  clear t1 b1 HNEW htb
  go_wp2_with fail
  refine (HLG.out).mono ?_
  rintro e w2 ⟨l, lv, rfl, hin, hl12, hl, hsi⟩
  have HB2 := Lib.hid ((HW1.out).grown hsi.old HW1.out.size (fun q e => by injection e with e; rw [← e, ← HTB.out]; exact Nat.le_refl _))
  obtain ⟨av, cv, rfl, hcap, -⟩ := PstsAt.open hl
  have HOK := Lib.hid hin.ok
  obtain ⟨nl, hnl⟩ : ∃ k, k = l.length := ⟨_, rfl⟩
  have HNL := Lib.hid hnl
  have H12 : Hid (l.length ≤ 12) := Lib.hid (by omega)
  rw [← hnl]
  rw [← hnl] at hl hcap
  obtain ⟨bL, hbL⟩ : ∃ x, x = w2.heap.size := ⟨_, rfl⟩
  obtain ⟨w3, hw3⟩ : ∃ w3, w3 = w2.alloc (.cells #[.slice av nl cv] 27) := ⟨_, rfl⟩
  have HX3 : Hid (w3.heap[bL]? = some (.cells #[.slice av nl cv] 27 (0, 0))) := Lib.hid (by rw [hw3, hbL]; exact heap_alloc_new _ _)
  have HB3 : Hid (Below w.heap.size w w3) := Lib.hid (by rw [hw3]; exact HB2.out.alloc HB2.out.size _)
  have HL3 : Hid (PstsAt w3 (.slice av nl cv) l) := Lib.hid (by rw [hw3]; exact ListAt.below hl (below_alloc _ _))
  have HW3 := Lib.hid hw3
  have HBL := Lib.hid hbL
  clear hw3 hl hsi hin hnl hbL HLG hl12
  go_upto_region 3 with fail
  rw [← HW3.out, ← HBL.out]
  clear HW3
  obtain ⟨g1, hg1⟩ : ∃ b, b = w3.heap.size := ⟨_, rfl⟩
  obtain ⟨u1, hu1⟩ : ∃ W, W = w3.alloc (.cells #[.int .i64 1, .int .i64 2, .int .i64 3] 3) := ⟨_, rfl⟩
  obtain ⟨g2, hg2⟩ : ∃ b, b = u1.heap.size := ⟨_, rfl⟩
  obtain ⟨u2, hu2⟩ : ∃ W, W = u1.alloc (.cells #[.int .i64 1, .int .i64 2] 3) := ⟨_, rfl⟩
  obtain ⟨g3, hg3⟩ : ∃ b, b = u2.heap.size := ⟨_, rfl⟩
  obtain ⟨u3, hu3⟩ : ∃ W, W = u2.alloc (.cells #[.int .i64 1, .int .i64 3] 3) := ⟨_, rfl⟩
  obtain ⟨g4, hg4⟩ : ∃ b, b = u3.heap.size := ⟨_, rfl⟩
  obtain ⟨w4, hw4⟩ : ∃ W, W = u3.alloc (.cells #[.int .i64 2] 3) := ⟨_, rfl⟩
  have e12 : Below u1.heap.size u1 u2 := by rw [hu2]; exact below_alloc _ _
  have e23 : Below u2.heap.size u2 u3 := by rw [hu3]; exact below_alloc _ _
  have e34 : Below u3.heap.size u3 w4 := by rw [hw4]; exact below_alloc _ _
  have e31 : Below w3.heap.size w3 u1 := by rw [hu1]; exact below_alloc _ _
  have e24 : Below u2.heap.size u2 w4 := e23.trans (e34.mono e23.size)
  have e14 : Below u1.heap.size u1 w4 := e12.trans (e24.mono e12.size)
  have e04 : Below w3.heap.size w3 w4 := e31.trans (e14.mono e31.size)
  have HGA : Hid (ListAt intC 1 w4 (.slice (some ⟨g1, 0, none⟩) 3 3) [1, 2, 3]) := Lib.hid (ListAt.below (by rw [hu1, hg1]; exact list_newC intF w3 ([1, 2, 3] : List Int) 3) e14)
  have HGB : Hid (ListAt intC 1 w4 (.slice (some ⟨g2, 0, none⟩) 2 2) [1, 2]) := Lib.hid (ListAt.below (by rw [hu2, hg2]; exact list_newC intF u1 ([1, 2] : List Int) 3) e24)
  have HGC : Hid (ListAt intC 1 w4 (.slice (some ⟨g3, 0, none⟩) 2 2) [1, 3]) := Lib.hid (ListAt.below (by rw [hu3, hg3]; exact list_newC intF u2 ([1, 3] : List Int) 3) e34)
  have HGD : Hid (ListAt intC 1 w4 (.slice (some ⟨g4, 0, none⟩) 1 1) [2]) := Lib.hid (by rw [hw4, hg4]; exact list_newC intF u3 ([2] : List Int) 3)
  have HB4 : Hid (Below w.heap.size w w4) := Lib.hid (HB3.out.trans (e04.mono HB3.out.size))
  have HX4 := Lib.hid (obj_below HX3.out e04)
  have HL4 := Lib.hid (HL3.out.below e04)
  have hz1 : u1.heap.size = w3.heap.size + 1 := by rw [hu1]; simp
  have hz2 : u2.heap.size = w3.heap.size + 1 + 1 := by rw [hu2, ← hz1]; simp
  have hz3 : u3.heap.size = w3.heap.size + 1 + 1 + 1 := by rw [hu3, ← hz2]; simp
  have G1 := Lib.hid hg1
  have G2 : Hid (g2 = w3.heap.size + 1) := Lib.hid (hg2.trans hz1)
  have G3 : Hid (g3 = w3.heap.size + 1 + 1) := Lib.hid (hg3.trans hz2)
  have G4 : Hid (g4 = w3.heap.size + 1 + 1 + 1) := Lib.hid (hg4.trans hz3)
  have U1 := Lib.hid hu1
  have U2 := Lib.hid hu2
  have U3 := Lib.hid hu3
  have U4 := Lib.hid hw4
  clear hg1 hg2 hg3 hg4 hu1 hu2 hu3 hw4 e12 e23 e34 e31 e24 e14 e04 HX3 HB3 HL3 hz1 hz2 hz3
  go_wp2
  rw [← U1.out, ← U2.out, ← U3.out, ← U4.out, ← G4.out, ← G3.out, ← G2.out, ← G1.out]
  clear U1 U2 U3 U4 G1 G2 G3 G4
  go_loopw [31] (fun jv wr => ∃ j : Nat, jv = .int .i64 j ∧ j ≤ 4 ∧ Hid (Below w4.heap.size w4 wr)) (fun jv _ => 4 - (RowKit.intOf jv).toNat)
  case atStart => exact ⟨0, rfl, by omega, Lib.hid (Below.refl _ _)⟩
  case round =>
    obtain ⟨j, rfl, hj4, HB⟩ := hrel
    have hwj : IntKind.i64.wrap ((j : Int) + 1) = (j : Int) + 1 := IntWalk.i64_in _ (by omega)
    by_cases hlt : j < 4
    · obtain ⟨gb, m, g, hix, HGR, HGO, hm3, HM, HM1, HG0⟩ : ∃ (gb m : Nat) (g : List Int), (∀ W, (Instr.index 52 (.agg #[.slice (some ⟨g1, 0, none⟩) 3 3, .slice (some ⟨g2, 0, none⟩) 2 2, .slice (some ⟨g3, 0, none⟩) 2 2, .slice (some ⟨g4, 0, none⟩) 1 1]) (.int .i64 (j : Int))).run Try.prog W = .ok (.slice (some ⟨gb, 0, none⟩) m m) W) ∧ Hid (ListAt intC 1 w4 (.slice (some ⟨gb, 0, none⟩) m m) g) ∧ Hid (GrpOk g) ∧ m ≤ 3 ∧ Hid (m = g.length) ∧ Hid (m = 1 → ∃ e, g = [e]) ∧ Hid (∀ e ∈ g, e ≠ 0) := by
        have h := fun W => index_g (.slice (some ⟨g1, 0, none⟩) 3 3) (.slice (some ⟨g2, 0, none⟩) 2 2) (.slice (some ⟨g3, 0, none⟩) 2 2) (.slice (some ⟨g4, 0, none⟩) 1 1) W
        rcases (by omega : j = 0 ∨ j = 1 ∨ j = 2 ∨ j = 3) with rfl | rfl | rfl | rfl
        · exact ⟨g1, 3, [1, 2, 3], fun W => (h W).1, HGA, Lib.hid ⟨by decide, by decide, by decide, by decide⟩, by omega, Lib.hid rfl, Lib.hid fun h => by omega, Lib.hid (by decide)⟩
        · exact ⟨g2, 2, [1, 2], fun W => (h W).2.1, HGB, Lib.hid ⟨by decide, by decide, by decide, by decide⟩, by omega, Lib.hid rfl, Lib.hid fun h => by omega, Lib.hid (by decide)⟩
        · exact ⟨g3, 2, [1, 3], fun W => (h W).2.2.1, HGC, Lib.hid ⟨by decide, by decide, by decide, by decide⟩, by omega, Lib.hid rfl, Lib.hid fun h => by omega, Lib.hid (by decide)⟩
        · exact ⟨g4, 1, [2], fun W => (h W).2.2.2, HGD, Lib.hid ⟨by decide, by decide, by decide, by decide⟩, by omega, Lib.hid rfl, Lib.hid fun _ => ⟨2, rfl⟩, Lib.hid (by decide)⟩
      have hj0 : (0 : Int) ≤ (j : Int) := by omega
      have hj41 : (j : Int) < 4 := by omega
      have HX5 := Lib.hid (obj_below HX4.out HB.out)
      have HL5 := Lib.hid (HL4.out.below HB.out)
      have HG5 := Lib.hid (HGR.out.below HB.out)
      have HWH := Lib.hid (csWhole_right HOK.out HGO.out k ⟨hk0, by omega⟩ (.slice av nl cv) (.slice (some ⟨gb, 0, none⟩) m m) wr HL5.out HG5.out)
      unfold WhPost at HWH
      obtain ⟨el, hel⟩ : ∃ q, q = elimQ k l (eachQ g (refsM l)) := ⟨_, rfl⟩
      obtain ⟨D, hD⟩ : ∃ q, q = difL k l (eachQ g (refsM l)) := ⟨_, rfl⟩
      obtain ⟨B, hBd⟩ : ∃ R, R = balsM (wholeM k l g) := ⟨_, rfl⟩
      have HEL : Hid (m = 1 → el = 0 ∧ D = []) := Lib.hid fun h => by
        obtain ⟨e, he⟩ := HM1.out h
        rw [hel, hD, he, each_one]
        exact ⟨rfl, rfl⟩
      have HBM : Hid (∀ b ∈ B, b.amt = wholeM k l g b.acct ∧ 100 ≤ b.acct ∧ b.acct ≤ 599 ∧ -3000000000000000 ≤ b.amt ∧ b.amt ≤ 3000000000000000) := Lib.hid fun b hb => by
        rw [hBd] at hb
        have h1 := mem_bals hb
        have h2 := zero_small (d := k) (t := b.acct) (g := g) HOK.out H12.out (by rw [← HM.out]; exact hm3)
        rw [← h1.1] at h2
        exact ⟨h1.1, h1.2.2.1, h1.2.2.2, h2⟩
      have HTOT : Hid (totB B = 0) := Lib.hid (by rw [hBd]; exact whole_zero HOK.out.mem g)
      have HASC : Hid (∀ (i : Nat) (h : i + 1 < B.length), (B[i]'(by omega)).acct < B[i + 1].acct) := Lib.hid fun i h => by
        have h1 := bals_asc (wholeM k l g)
        rw [← hBd] at h1
        exact (List.pairwise_iff_getElem.1 h1) i (i + 1) (by omega) h (by omega)
      have hBn : B.length ≤ 500 := by rw [hBd]; exact bals_len _
      rw [← hel, ← hD, ← hBd] at HWH
      have s0 := obj_cell HX5.out 0
      simp at s0
      clear hel hD hBd HGR HGO HM1
      go_wp2_with fail
      refine (HWH.out).mono ?_
      rintro e w5 ⟨vb, vd, rfl, hownB, hownD, hb5⟩
      obtain ⟨ad, cd, hvd, -, -⟩ := owns_gen hownD
      obtain ⟨nd, hnd⟩ : ∃ k, k = D.length := ⟨_, rfl⟩
      rw [← hnd] at hvd
      subst hvd
      have HND : Hid (m = 1 → el = 0 ∧ nd = 0) := Lib.hid fun h => by
        have := HEL.out h
        refine ⟨this.1, ?_⟩
        rw [hnd, this.2]; rfl
      obtain ⟨ab, cb, hvb, hcapB, hbs⟩ := (ListAt.owns hownB : ListAt balC 2 w5 vb B).shape balF
      obtain ⟨nb, hnb⟩ : ∃ k, k = B.length := ⟨_, rfl⟩
      have HNB := Lib.hid hnb
      rw [← hnb] at hvb hBn hcapB
      subst hvb
      have HBS := Lib.hid hbs
      obtain ⟨bW, hbW⟩ : ∃ b, b = w5.heap.size := ⟨_, rfl⟩
      obtain ⟨w6, hw6⟩ : ∃ W, W = w5.alloc (.cells #[.slice ab nb cb, .int .i64 el, .slice ad nd cd] 47) := ⟨_, rfl⟩
      have hD5 := HB.out.trans (hb5.mono HB.out.size)
      have HD6 : Hid (Below w4.heap.size w4 w6) := Lib.hid (by rw [hw6]; exact hD5.alloc hD5.size _)
      have HE6 : Hid (Below w5.heap.size w5 w6) := Lib.hid (by rw [hw6]; exact below_alloc _ _)
      have HX6 : Hid (w6.heap[bL]? = some (.cells #[.slice av nl cv] 27 (0, 0))) := Lib.hid (by rw [hw6]; exact obj_below (obj_below HX5.out hb5) (below_alloc _ _))
      have HY6 : Hid (w6.heap[bW]? = some (.cells #[.slice ab nb cb, .int .i64 el, .slice ad nd cd] 47 (0, 0))) := Lib.hid (by rw [hw6, hbW]; exact heap_alloc_new _ _)
      have HL6 : Hid (PstsAt w6 (.slice av nl cv) l) := Lib.hid (by rw [hw6]; exact ListAt.below (HL5.out.below hb5) (below_alloc _ _))
      have HG6 : Hid (ListAt intC 1 w6 (.slice (some ⟨gb, 0, none⟩) m m) g) := Lib.hid (by rw [hw6]; exact ListAt.below (HG5.out.below hb5) (below_alloc _ _))
      have HW6 := Lib.hid hw6
      have HBW := Lib.hid hbW
      have hmp : 0 < g.length ∨ g.length = 0 := by omega
      clear hw6 hbW hD5 hb5 hownB hownD hbs hnb s0 HWH HB hnd HX5 HL5 HG5 HEL hix
      go_upto_region 8 with fail
      rw [← HW6.out, ← HBW.out]
      have y0 := obj_cell HY6.out 0
      simp at y0
      go_wp2
      clear y0
      go_loopw [12, 46] (fun sv iv wi => ∃ (s : Int) (i : Nat), sv = .int .i64 s ∧ iv = .int .i64 i ∧ i ≤ nb ∧ Hid (s = totB (B.take i)) ∧ Hid (Below w6.heap.size w6 wi)) (fun _ iv _ => nb - (RowKit.intOf iv).toNat)
      case atStart => exact ⟨0, 0, rfl, rfl, by omega, Lib.hid rfl, Lib.hid (Below.refl _ _)⟩
      case round =>
        obtain ⟨s, i, rfl, rfl, hin, HS, HB⟩ := hrel
        by_cases hlti : i < nb
        · have hil : i < B.length := by rw [← HNB.out]; exact hlti
          obtain ⟨b1, o1, rfl, hb1, hcc⟩ := HBS.out (by omega)
          have hB2 := HE6.out.trans (HB.out.mono HE6.out.size)
          have hcell := fun q (hq : q < 2) => (hB2.cell (p := ⟨b1, o1 + i * 2 + q, none⟩) hb1).trans (hcc i hil q hq)
          have HPREV : Hid (∀ i', i = i' + 1 → ∃ pa, pa < B[i].acct ∧ wr.cell? ⟨b1, o1 + i' * 2, none⟩ = some (.int .i64 pa)) := Lib.hid fun i' h => by
            subst h
            exact ⟨_, HASC.out i' hil, (hB2.cell (p := ⟨b1, o1 + i' * 2 + 0, none⟩) hb1).trans (hcc i' (by omega) 0 (by omega))⟩
          have HTK := Lib.hid (totB_take hil)
          have hxm := HBM.out _ (List.getElem_mem hil)
          have hbd := totB_bound (B := 3000000000000000) (by omega) (l := B.take i) fun b hb => (HBM.out b (List.mem_of_mem_take hb)).2.2.2
          have hlk : (B.take i).length = i := by rw [List.length_take]; omega
          rw [hlk, ← HS.out] at hbd
          have hi0 : (0 : Int) ≤ (i : Int) := by omega
          have hi1 : (i : Int) < (nb : Int) := by omega
          have hwi : IntKind.i64.wrap ((i : Int) + 1) = (i : Int) + 1 := IntWalk.i64_in _ (by omega)
          generalize B[i] = x at *
          obtain ⟨x0, x1⟩ := x
          simp only at hxm HTK HPREV
          obtain ⟨hx1, hx2, hx3, hx4⟩ := hxm
          have hws : IntKind.i64.wrap (s + x1) = s + x1 := IntWalk.i64_in _ (by omega)
          have c0 : wr.cell? ⟨b1, o1 + i * 2, none⟩ = some (.int .i64 x0) := hcell 0 (by omega)
          have c1 : wr.cell? ⟨b1, o1 + i * 2 + 1, none⟩ = some (.int .i64 x1) := hcell 1 (by omega)
          obtain ⟨w8, hw8⟩ : ∃ W, W = wr.alloc (.cells #[.int .i64 x0, .int .i64 x1] 51) := ⟨_, rfl⟩
          obtain ⟨bX, hbX⟩ : ∃ q, q = wr.heap.size := ⟨_, rfl⟩
          have HZ8 : Hid (w8.heap[bX]? = some (.cells #[.int .i64 x0, .int .i64 x1] 51 (0, 0))) := Lib.hid (by rw [hw8, hbX]; exact heap_alloc_new _ _)
          have HB8 : Hid (Below w6.heap.size w6 w8) := Lib.hid (by rw [hw8]; exact HB.out.alloc HB.out.size _)
          have HPV8 : Hid (∀ i', i = i' + 1 → ∃ pa, pa < x0 ∧ w8.cell? ⟨b1, o1 + i' * 2, none⟩ = some (.int .i64 pa)) := Lib.hid fun i' h => by
            obtain ⟨pa, h1, h2⟩ := HPREV.out i' h
            refine ⟨pa, h1, ?_⟩
            rw [hw8]
            exact ((below_alloc wr _).cell (p := ⟨b1, o1 + i' * 2, none⟩) (Nat.lt_of_lt_of_le hb1 hB2.size)).trans h2
          have HW8 := Lib.hid hw8
          have HBX := Lib.hid hbX
          have HX1 := Lib.hid hx1
          clear hcell hcc hw8 hbX hB2 hbd hlk HPREV hx1
          go_upto_region 14 with fail
          rw [← HW8.out, ← HBX.out]
          clear c0 c1
          have hz8 := HZ8.out
          have z0 := obj_cell hz8 0
          have z1 := obj_cell hz8 1
          simp at z0 z1
          have y0 := obj_cell (obj_below HY6.out HB8.out) 0
          simp at y0
          clear hz8
          go_upto_region 15 with fail
          go_cut [68] (fun cv wx => cv = .bool false ∧ Hid (Below w8.heap.size w8 wx))
          case first =>
            rcases i with _ | i'
            · go_quiet (fail)
              go_wp2
              go_meet
              exact ⟨rfl, Lib.hid (below_drewN (Below.refl _ _) _)⟩
            · obtain ⟨pa, hpa, pc⟩ := HPV8.out i' rfl
              have hwm : IntKind.i64.wrap (((i' + 1 : Nat) : Int) - 1) = (i' : Int) := by rw [show ((i' + 1 : Nat) : Int) - 1 = (i' : Int) by omega]; exact IntWalk.i64_in _ (by omega)
              have hpx : ¬ x0 ≤ pa := by omega
              go_quiet (fail)
              go_wp2
              go_meet
              exact ⟨rfl, Lib.hid (below_drewN (Below.refl _ _) _)⟩
          case rest =>
            obtain ⟨rfl, HJ⟩ := hcut
            have HZK : Hid (∀ W, Below w8.heap.size w8 W → W.heap[bX]? = some (.cells #[.int .i64 x0, .int .i64 x1] 51 (0, 0))) := Lib.hid fun W hW => obj_below HZ8.out hW
            have HXK : Hid (∀ W, Below w8.heap.size w8 W → W.heap[bL]? = some (.cells #[.slice av nl cv] 27 (0, 0))) := Lib.hid fun W hW => obj_below (obj_below HX6.out HB8.out) hW
            have HLK : Hid (∀ W, Below w8.heap.size w8 W → PstsAt W (.slice av nl cv) l) := Lib.hid fun W hW => (HL6.out.below HB8.out).below hW
            have HGK : Hid (∀ W, Below w8.heap.size w8 W → ∀ q (hq : q < g.length), W.cell? ⟨gb, q, none⟩ = some (.int .i64 g[q])) := Lib.hid fun W hW q hq => by
              have h1 := HB8.out.trans (hW.mono HB8.out.size)
              have h2 := ints_cells HG6.out q hq
              exact (h1.cell (p := ⟨gb, q, none⟩) h2.1).trans h2.2
            clear z0 z1 y0 HPV8 HW8 HBX HZ8
            go_wp2
            go_loopw [15, 71] (fun pv qv wq => ∃ (p : Int) (q : Nat), pv = .int .i64 p ∧ qv = .int .i64 q ∧ q ≤ m ∧ Hid (p = grpM k l x0 (g.take q)) ∧ Hid (Below w8.heap.size w8 wq)) (fun _ qv _ => m - (RowKit.intOf qv).toNat)
            case atStart => exact ⟨0, 0, rfl, rfl, by omega, Lib.hid rfl, HJ⟩
            case round =>
              clear HJ
              obtain ⟨p, q, rfl, rfl, hqm, HP, HJ⟩ := hrel
              by_cases hltq : q < m
              · have hql : q < g.length := by rw [← HM.out]; exact hltq
                have gc := HGK.out _ HJ.out q hql
                have HGT := Lib.hid (grpM_take (d := k) (t := x0) (l := l) hql)
                have hne := HG0.out _ (List.getElem_mem hql)
                generalize g[q] = ee at *
                have HOF := Lib.hid (rgOf_right HOK.out ee x0 k (.slice av nl cv) wr (HLK.out _ HJ.out) hne ⟨hx2, hx3⟩)
                obtain ⟨oq, hoq⟩ : ∃ z, z = ofM ee (byDay k) x0 l := ⟨_, rfl⟩
                have hob := ofM_bound (e := ee) (f := byDay k) (a := x0) HOK.out.mem
                have h12 := H12.out
                have hpb := grp_small (d := k) (t := x0) HOK.out H12.out (g.take q)
                have hlq : (g.take q).length = q := by rw [List.length_take]; omega
                rw [hlq, ← HP.out] at hpb
                rw [← hoq] at HOF HGT hob
                have hwo : IntKind.i64.wrap (p + oq) = p + oq := IntWalk.i64_in _ (by omega)
                have hwq : IntKind.i64.wrap ((q : Int) + 1) = (q : Int) + 1 := IntWalk.i64_in _ (by omega)
                have hq0 : (0 : Int) ≤ (q : Int) := by omega
                have hq1 : (q : Int) < (m : Int) := by omega
                have s0 := obj_cell (HXK.out _ HJ.out) 0
                have z0 := obj_cell (HZK.out _ HJ.out) 0
                simp at s0 z0
                clear hoq hob h12 hpb hlq hne
                go_wp2_with fail
                refine (HOF.out).mono ?_
                rintro e w9 ⟨rfl, hb9⟩
                have HJ2 := Lib.hid (HJ.out.trans (hb9.mono HJ.out.size))
                clear hb9 s0 z0 gc
                go_wp2
                go_roundw
                case rel => exact ⟨p + oq, q + 1, rfl, by first | rfl | go_num, by omega, Lib.hid (by rw [HGT.out, HP.out]), HJ2⟩
                case measure => simp [RowKit.intOf]; omega
              · obtain rfl : q = m := by omega
                rw [List.take_of_length_le (by rw [← HM.out]; exact Nat.le_refl _)] at HP
                have HB9 := Lib.hid (HB8.out.trans (HJ.out.mono HB8.out.size))
                have z0 := obj_cell (HZK.out _ HJ.out) 0
                have z1 := obj_cell (HZK.out _ HJ.out) 1
                simp at z0 z1
                have HNS : Hid (s + x1 = totB (B.take (i + 1))) := Lib.hid (by rw [HTK.out, HS.out])
                by_cases hpl : plainA x0
                · obtain rfl : p = x1 := by
                    rw [HP.out, HX1.out]
                    unfold wholeM
                    rw [el_other hpl]
                    omega
                  obtain ⟨m1, m2, m3, m4⟩ : (x0 == 140) = false ∧ (x0 == 240) = false ∧ (x0 == 440) = false ∧ (x0 == 540) = false := by simpa [beq_eq_false_iff_ne, plainA] using hpl
                  clear hpl
                  go_wp2
                  go_roundw
                  case rel => exact ⟨s + p, i + 1, rfl, by first | rfl | go_num, by omega, HNS, HB9⟩
                  case measure => simp [RowKit.intOf]; omega
                · have h4 : x0 = 140 ∨ x0 = 240 ∨ x0 = 440 ∨ x0 = 540 := by unfold plainA at hpl; omega
                  clear hpl
                  rcases h4 with rfl | rfl | rfl | rfl
                  · go_wp2
                    go_roundw
                    case rel => exact ⟨s + x1, i + 1, rfl, by first | rfl | go_num, by omega, HNS, HB9⟩
                    case measure => simp [RowKit.intOf]; omega
                  · go_wp2
                    go_roundw
                    case rel => exact ⟨s + x1, i + 1, rfl, by first | rfl | go_num, by omega, HNS, HB9⟩
                    case measure => simp [RowKit.intOf]; omega
                  · go_wp2
                    go_roundw
                    case rel => exact ⟨s + x1, i + 1, rfl, by first | rfl | go_num, by omega, HNS, HB9⟩
                    case measure => simp [RowKit.intOf]; omega
                  · go_wp2
                    go_roundw
                    case rel => exact ⟨s + x1, i + 1, rfl, by first | rfl | go_num, by omega, HNS, HB9⟩
                    case measure => simp [RowKit.intOf]; omega
        · obtain rfl : i = nb := by omega
          obtain rfl : s = 0 := by rw [HS.out, List.take_of_length_le (by rw [← HNB.out]; exact Nat.le_refl _)]; exact HTOT.out
          have HD9 := Lib.hid (HD6.out.trans (HB.out.mono HD6.out.size))
          have hy := obj_below HY6.out HB.out
          have y1 := obj_cell hy 1
          have y2 := obj_cell hy 2
          simp at y1 y2
          clear hy
          by_cases hm1 : m = 1
          · obtain ⟨e1, e2⟩ := HND.out hm1
            subst e1 e2
            clear HND
            subst hm1
            go_wp2
            go_roundw
            case rel => exact ⟨j + 1, by first | rfl | go_num, by omega, HD9⟩
            case measure => simp [RowKit.intOf]; omega
          · have hmb : ((m : Int) == 1) = false := by rw [beq_eq_false_iff_ne]; omega
            go_wp2
            go_roundw
            case rel => exact ⟨j + 1, by first | rfl | go_num, by omega, HD9⟩
            case measure => simp [RowKit.intOf]; omega
    · have HE := Lib.hid (HB4.out.trans (HB.out.mono HB4.out.size))
      clear HB
      go_wp2_with fail
      refine (HSN.out _).mono ?_
      rintro e w9 ⟨rfl, hb9⟩
      have HF := Lib.hid (HE.out.trans (hb9.mono HE.out.size))
      clear hb9
      go_wp2
      go_ret
      exact ⟨rfl, HF.out⟩

end Go.Proofs.Ytdbpbmejgdbppaa
