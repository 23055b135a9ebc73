/- The holdings of a day are those that the moves until then have made, and the last day has those of now: for every tape and every day. -/
import Derived.Test.YtnfllgeneehjjaaMRzR
import Derived.Test.YtnfllgeneehjjaaMRyG
import Derived.Test.YtnfllgeneehjjaaMRhE
import Derived.Test.YtnfllgeneehjjaaMRhY
import Derived.Test.YtnfllgeneehjjaaMRegInv
set_option linter.unusedSimpArgs false
set_option linter.unusedVariables false
set_option linter.unusedSimpArgs false
set_option linter.unusedVariables false
namespace Go.Proofs.Ytnfllgeneehjjaa
open Go.RowKit Go.Lib Go.Proofs

/-- The moves of up to a day. -/
def untilM (day : Int) (ms : List Mv) : List Mv := ms.filter fun m => decide (m.day ≤ day)
theorem untilM_yes {day : Int} {ms : List Mv} {i : Nat} (hi : i < ms.length) (h : ms[i].day ≤ day) : untilM day (ms.take (i + 1)) = untilM day (ms.take i) ++ [ms[i]] := by
  unfold untilM
  rw [List.take_succ_eq_append_getElem hi, List.filter_append, List.filter_cons_of_pos (by simpa using h), List.filter_nil]
theorem untilM_no {day : Int} {ms : List Mv} {i : Nat} (hi : i < ms.length) (h : ¬ ms[i].day ≤ day) : untilM day (ms.take (i + 1)) = untilM day (ms.take i) := by
  unfold untilM
  rw [List.take_succ_eq_append_getElem hi, List.filter_append, List.filter_cons_of_neg (by simpa using h), List.filter_nil, List.append_nil]
theorem untilM_len (day : Int) (ms : List Mv) (i : Nat) : (untilM day (ms.take i)).length ≤ i := by
  unfold untilM
  exact Nat.le_trans (List.length_filter_le _ _) (by rw [List.length_take]; omega)
theorem untilM_till {day : Int} {ms : List Mv} (h : ms.Pairwise fun a c => a.day ≤ c.day) : untilM day ms = tillM day ms := by
  obtain ⟨k, hk, ht, h1, h2⟩ := till_split (day := day) h
  rw [ht]
  unfold untilM
  conv => lhs; rw [← List.take_append_drop k ms]
  rw [List.filter_append, List.filter_eq_self.2 (fun x hx => by simpa using h1 x hx), List.filter_eq_nil_iff.2 (fun x hx => by simpa using h2 x hx), List.append_nil]
theorem RegOk.until {r : Reg} (h : RegOk r) {day : Int} {q : List Hld} (hq : replayM r.secs [] Mv.zero (tillM day r.ms) = some q) : RegOk ⟨r.secs, q, untilM day r.ms⟩ :=
  ⟨h.secs, Nat.le_trans (List.length_filter_le _ _) h.len, by rw [untilM_till h.asc]; exact hq⟩
theorem RegOk.last {r : Reg} (h : RegOk r) {q : List Hld} (hq : replayM r.secs [] Mv.zero (tillM 36000 r.ms) = some q) : q = r.hs := by
  rw [tillM_all (fun m hm => by obtain ⟨l', bd, s, hk⟩ := replay_mem (fun s hs => (h.secs.bound s hs).2.2) h.run m hm; exact hk.day2), h.run] at hq
  injection hq with hq
  exact hq.symm
theorem Try.infoRzY : (Try.prog.info? 36).map (fun i => (i.zero, i.size, i.bytes)) = some (some (.agg #[.int .i64 0, .int .i64 0, .int .i64 0, .int .i64 0, .int .i64 0, .int .i64 0, .int .i64 0]), 7, 56) := by kernel_rfl

set_option maxRecDepth 100000 in
set_option maxHeartbeats 16000000 in
theorem rhdays_any (v : Value) (n : Nat) (dd : Int) (w : World) (hi : IntsAt w v n w.heap.size) (hn : n ≤ 9223372036854775807) (hd0 : 0 ≤ dd) (hd1 : dd ≤ 255) :
    Calls Try.prog 7 #[v, .int .u8 dd] w fun e w' => e = .returned (.bool true) ∧ Below w.heap.size w w' := by
  have HNEW := Lib.hid (sNew_any v n w hi hn)
  have HSN := Lib.hid sane33_true
  clear hi hn
  obtain ⟨i0, hi0, hz0, hz1, hz2⟩ := info_parts Try.infoRzY
  go_enter Try.func7, Try.ntmps7
  go_wp2_with fail
  refine (HNEW.out).mono ?_
  rintro e w1 ⟨rfl, t1, b1⟩
  obtain ⟨tb, htb⟩ : ∃ tb, tb = w.heap.size := ⟨_, rfl⟩
  rw [← htb] at t1 ⊢
  have HRG := Lib.hid (sRegister_any tb 10 w1 t1 (by omega))
  have HFIN : Hid (∀ W, SI w1 tb W → Below w.heap.size w W) := Lib.hid fun W hW => b1.grown hW.old b1.size (fun q e => by injection e with e; omega)
  clear t1 b1 HNEW htb
  go_wp2_with fail
  with_reducible refine Calls.mono HRG.out ?_
  rintro e w2 ⟨x, y, z, r, d, rfl, hG, hs0, hs1, hml, hd, hra, hsi⟩
  obtain ⟨a0, n0, c0, b0, m0, d0, e0, k0, f0, rfl, rfl, rfl⟩ := hra.slices
  obtain ⟨bR, hbR⟩ : ∃ b, b = w2.heap.size := ⟨_, rfl⟩
  obtain ⟨w3, hw3⟩ : ∃ W, W = w2.alloc (.cells #[.slice a0 n0 c0, .slice b0 m0 d0, .slice e0 k0 f0] 29) := ⟨_, rfl⟩
  have HI3 : Hid (RgI w1 tb bR (.slice a0 n0 c0) (.slice b0 m0 d0) (.slice e0 k0 f0) r w3) := Lib.hid (by
    rw [hw3, hbR]
    have hlt := hsi.lt
    have hsz := hsi.old.size
    exact ⟨hsi.alloc _, heap_alloc_new _ _, hra.below (below_alloc _ _), by omega, hsz⟩)
  have HOK := Lib.hid hG.ok
  clear hG hra hsi hml HRG hd hs0 hs1
  go_upto_region 3 with fail
  rw [← hw3, ← hbR]
  clear hw3 hbR
  obtain ⟨aM, cM, hze, hcapM, hcsM⟩ := HI3.out.reg.ms.shape mvF
  obtain ⟨nM, hnM⟩ : ∃ n, n = r.ms.length := ⟨_, rfl⟩
  have hnM4 : nM ≤ 400 := by rw [hnM]; exact HOK.out.len
  rw [← hnM] at hze
  injection hze with hze1 hze2 hze3
  replace hze1 := hze1.symm
  replace hze2 := hze2.symm
  replace hze3 := hze3.symm
  subst hze1 hze2 hze3
  have HCM := Lib.hid hcsM
  have HNM := Lib.hid hnM
  clear hcsM hnM hcapM
  have hA := HI3.out.box
  have s0 := obj_cell hA 0
  have s1 := obj_cell hA 1
  have s2 := obj_cell hA 2
  simp at s0 s1 s2
  clear hA
  have hq1 : IntKind.i64.wrap dd = dd := IntWalk.i64_in _ (by omega)
  have hq2 : IntKind.i64.wrap (90 + dd) = 90 + dd := IntWalk.i64_in _ (by omega)
  obtain ⟨bC, hbC⟩ : ∃ b, b = w3.heap.size := ⟨_, rfl⟩
  obtain ⟨w5, hw5⟩ : ∃ W, W = w3.alloc (.cells #[.slice a0 n0 c0, .slice b0 m0 d0, .slice none 0 0] 29) := ⟨_, rfl⟩
  have HB5 : Hid (Below w3.heap.size w3 w5) := Lib.hid (by rw [hw5]; exact below_alloc _ _)
  have HC5 : Hid (w5.heap[bC]? = some (.cells #[.slice a0 n0 c0, .slice b0 m0 d0, .slice none 0 0] 29 (0, 0))) := Lib.hid (by rw [hw5, hbC]; exact heap_alloc_new _ _)
  have HLE : Hid (w3.heap.size ≤ bC) := Lib.hid (by omega)
  go_upto_region 6 with fail
  obtain ⟨day, hday⟩ : ∃ day, day = 90 + dd := ⟨_, rfl⟩
  rw [← hw5, ← hbC, ← hday]
  have hdy : 90 ≤ day ∧ day ≤ 345 := by omega
  clear hw5 hbC hday hq1 hq2 hd0 hd1 s0 s1 s2
  have hA := obj_below HI3.out.box HB5.out
  have s0 := obj_cell hA 0
  have s1 := obj_cell hA 1
  have s2 := obj_cell hA 2
  simp at s0 s1 s2
  clear hA
  go_wp2
  go_loopw [27] (fun iv wr => ∃ (i : Nat) (am : Option Addr) (nm cm : Nat), iv = .int .i64 (i : Int) ∧ i ≤ nM ∧ Hid (wr.heap[bC]? = some (.cells #[.slice a0 n0 c0, .slice b0 m0 d0, .slice am nm cm] 29 (0, 0))) ∧ Hid (wr.ownsRow (bC + 1) 36 7 (.slice am nm cm) (untilM day (r.ms.take i)).length (cellsL mvC (untilM day (r.ms.take i)))) ∧ Hid (Below w3.heap.size w3 wr)) (fun iv _ => nM - (RowKit.intOf iv).toNat)
  case atStart => exact ⟨0, none, 0, 0, rfl, by omega, HC5, Lib.hid (World.ownsRow_nil _ _ _ _), HB5⟩
  case round =>
    clear HC5 HB5 s0 s1 s2
    obtain ⟨i, am, nm, cm, rfl, hin, HC, HO, HB⟩ := hrel
    by_cases hlt : i < nM
    · have hil : i < r.ms.length := by rw [← HNM.out]; exact hlt
      obtain ⟨b, o, hbo, hb, hcc⟩ := HCM.out (by rw [← HNM.out]; omega)
      subst hbo
      have hcell := fun j (hj : j < 7) => (HB.out.cell (p := ⟨b, o + i * 7 + j, none⟩) hb).trans (hcc i hil j hj)
      have HYS : Hid (r.ms[i].day ≤ day → untilM day (r.ms.take (i + 1)) = untilM day (r.ms.take i) ++ [r.ms[i]]) := Lib.hid fun h => untilM_yes hil h
      have HNO : Hid (¬ r.ms[i].day ≤ day → untilM day (r.ms.take (i + 1)) = untilM day (r.ms.take i)) := Lib.hid fun h => untilM_no hil h
      have hul := untilM_len day r.ms i
      obtain ⟨L, hL⟩ : ∃ L, L = (untilM day (r.ms.take i)).length := ⟨_, rfl⟩
      have HL := Lib.hid hL
      rw [← hL] at HO hul
      generalize r.ms[i] = m at *
      obtain ⟨x0, x1, x2, x3, x4, x5, x6⟩ := m
      simp only at HYS HNO
      have hnmL : nm = L := by
        obtain ⟨ao', cap', hv, -, -⟩ := owns_gen HO.out
        injection hv
      subst hnmL
      have z0 : wr.cell? ⟨b, o + i * 7, none⟩ = some (.int .i64 x0) := hcell 0 (by omega)
      have z1 : wr.cell? ⟨b, o + i * 7 + 1, none⟩ = some (.int .i64 x1) := hcell 1 (by omega)
      have z2 : wr.cell? ⟨b, o + i * 7 + 2, none⟩ = some (.int .i64 x2) := hcell 2 (by omega)
      have z3 : wr.cell? ⟨b, o + i * 7 + 3, none⟩ = some (.int .i64 x3) := hcell 3 (by omega)
      have z4 : wr.cell? ⟨b, o + i * 7 + 4, none⟩ = some (.int .i64 x4) := hcell 4 (by omega)
      have z5 : wr.cell? ⟨b, o + i * 7 + 5, none⟩ = some (.int .i64 x5) := hcell 5 (by omega)
      have z6 : wr.cell? ⟨b, o + i * 7 + 6, none⟩ = some (.int .i64 x6) := hcell 6 (by omega)
      have hi00 : (0 : Int) ≤ (i : Int) := by omega
      have hi01 : (i : Int) < (nM : Int) := by omega
      have hwi : IntKind.i64.wrap ((i : Int) + 1) = (i : Int) + 1 := IntWalk.i64_in _ (by omega)
      obtain ⟨W2, hW2⟩ : ∃ W2, W2 = wr.alloc (.cells #[.int .i64 x0, .int .i64 x1, .int .i64 x2, .int .i64 x3, .int .i64 x4, .int .i64 x5, .int .i64 x6] 36) := ⟨_, rfl⟩
      obtain ⟨bM, hbM⟩ : ∃ b, b = wr.heap.size := ⟨_, rfl⟩
      have HB2 : Hid (Below w3.heap.size w3 W2) := Lib.hid (by rw [hW2]; exact HB.out.alloc HB.out.size _)
      have HX2 : Hid (W2.heap[bM]? = some (.cells #[.int .i64 x0, .int .i64 x1, .int .i64 x2, .int .i64 x3, .int .i64 x4, .int .i64 x5, .int .i64 x6] 36 (0, 0))) := Lib.hid (by rw [hW2, hbM]; exact heap_alloc_new wr _)
      have HC2 : Hid (W2.heap[bC]? = some (.cells #[.slice a0 n0 c0, .slice b0 m0 d0, .slice am nm cm] 29 (0, 0))) := Lib.hid (by rw [hW2]; exact obj_below HC.out (below_alloc _ _))
      have HO2 : Hid (W2.ownsRow (bC + 1) 36 7 (.slice am nm cm) nm (cellsL mvC (untilM day (r.ms.take i)))) := Lib.hid (by rw [hW2]; exact HO.out.alloc _)
      clear hcell hcc hL HC HO HB
      go_upto_region 9 with fail
      rw [← hW2, ← hbM]
      clear hW2 hbM z0 z1 z2 z3 z4 z5 z6
      have hX := HX2.out
      have t0 := obj_cell hX 0
      have t1 := obj_cell hX 1
      have t2 := obj_cell hX 2
      have t3 := obj_cell hX 3
      have t4 := obj_cell hX 4
      have t5 := obj_cell hX 5
      have t6 := obj_cell hX 6
      simp at t0 t1 t2 t3 t4 t5 t6
      clear hX
      by_cases hdx : x1 ≤ day
      · have hA := HC2.out
        have g0 := obj_cell hA 0
        have g1 := obj_cell hA 1
        have g2 := obj_cell hA 2
        have gf0 := obj_free hA 0
        have gf1 := obj_free hA 1
        have gf2 := obj_free hA 2
        simp at g0 g1 g2
        clear hA
        go_wp2_with (at_builtin; refine wpList_append_own _ rfl _ _ 27 rfl (bC + 1) 36 i0 (.agg #[.int .i64 0, .int .i64 0, .int .i64 0, .int .i64 0, .int .i64 0, .int .i64 0, .int .i64 0]) 7 56 Try.underlying27 hi0 hz0 hz1 hz2 rfl (by decide) _ _ _ rfl (HO2.out.alloc _) ⟨W2.heap.size, 0, none⟩ 1 1 (mvC ⟨x0, x1, x2, x3, x4, x5, x6⟩) rfl rfl (new_cells _ _ _ _ rfl) (mvF.one _) (by unfold maxLen; omega) (by omega) (by have := obj_lt HC2.out; simp; omega) ?_; intro v' w9 hown9 hgr9 _; (obtain ⟨a5, q5, rfl, _, _⟩ := owns_gen hown9); (have h6 := (hgr9.block bC (by have := obj_lt HC2.out; simp; omega) (by intro e; have := ownBlock_le HO2.out _ e.symm; omega)).trans (obj_below HC2.out (below_alloc W2 _))); (have z2 := obj_cell h6 2); (have zf2 := obj_free h6 2); (simp at z2); (have H6 := Lib.hid h6); (have HO9 := Lib.hid hown9); (have HG9 := Lib.hid hgr9); clear h6 hown9 hgr9)
        have HO10 : Hid ((w9.setCell ⟨bC, 2, none⟩ (.slice a5 (nm + 1) q5)).ownsRow (bC + 1) 36 7 (.slice a5 (nm + 1) q5) (untilM day (r.ms.take (i + 1))).length (cellsL mvC (untilM day (r.ms.take (i + 1))))) := Lib.hid (by
          rw [HYS.out hdx, ← cellsL_snoc, List.length_append, ← HL.out]
          exact ownsRow_setCell_below HO9.out (Nat.lt_succ_self bC) _)
        have HB10 : Hid (Below w3.heap.size w3 (w9.setCell ⟨bC, 2, none⟩ (.slice a5 (nm + 1) q5))) := Lib.hid ((((HB2.out.alloc HB2.out.size _).grown HG9.out (by have := HB2.out.size; simp; omega) fun j e => by have := ownBlock_le HO2.out j e; have := HLE.out; omega)).setCell HLE.out _)
        have HC10 : Hid ((w9.setCell ⟨bC, 2, none⟩ (.slice a5 (nm + 1) q5)).heap[bC]? = some (.cells #[.slice a0 n0 c0, .slice b0 m0 d0, .slice a5 (nm + 1) q5] 29 (0, 0))) := Lib.hid (by simpa using obj_set H6.out 2 (.slice a5 (nm + 1) q5))
        clear HO9 HG9 H6 HO2 HC2 HX2 HB2
        go_roundw
        case rel => first | exact ⟨i + 1, a5, _, _, by first | rfl | go_num, by omega, HC10, HO10, HB10⟩ | ((repeat apply Exists.intro); exact ⟨⟨i + 1, a5, _, _, by first | rfl | go_num, by omega, HC10, HO10, HB10⟩, rfl⟩)
        case measure => simp [RowKit.intOf]; omega
      · have HO10 : Hid (W2.ownsRow (bC + 1) 36 7 (.slice am nm cm) (untilM day (r.ms.take (i + 1))).length (cellsL mvC (untilM day (r.ms.take (i + 1))))) := Lib.hid (by
          rw [HNO.out hdx, ← HL.out]
          exact HO2.out)
        clear HO2 HX2
        go_wp2
        go_roundw
        case rel => first | exact ⟨i + 1, am, _, _, by first | rfl | go_num, by omega, HC2, HO10, HB2⟩ | ((repeat apply Exists.intro); exact ⟨⟨i + 1, am, _, _, by first | rfl | go_num, by omega, HC2, HO10, HB2⟩, rfl⟩)
        case measure => simp [RowKit.intOf]; omega
    · obtain rfl : i = nM := by omega
      have HMS : Hid (untilM day (r.ms.take i) = untilM day r.ms) := Lib.hid (by rw [HNM.out, List.take_length])
      rw [HMS.out] at HO
      have hA := obj_below HI3.out.box HB.out
      have s0 := obj_cell hA 0
      have s1 := obj_cell hA 1
      have s2 := obj_cell hA 2
      simp at s0 s1 s2
      clear hA HMS
      go_wp2_with fail
      refine Calls.mono (rxAt_ok r _ _ _ day _ HOK.out (HI3.out.below HB.out).reg) ?_
      rintro e w9 ⟨u, q, rfl, hq, hown, hb9⟩
      obtain ⟨aq, cq, rfl, -, -⟩ := owns_gen hown
      obtain ⟨nq, hnq⟩ : ∃ nq, nq = q.length := ⟨_, rfl⟩
      have HCUT := Lib.hid (HOK.out.until hq)
      have HC9 := Lib.hid (obj_below HC.out hb9)
      have HO9 := Lib.hid (ownsRow_below HO.out hb9)
      have HB9 := Lib.hid (HB.out.trans (hb9.mono HB.out.size))
      have HH9 : Hid (w9.ownsRow (bC + 1) 51 3 (.slice aq nq cq) q.length (cellsL hldC q)) := Lib.hid (by rw [hnq]; exact ownsRow_mono hown (by have := obj_lt HC.out; omega))
      rw [← hnq]
      clear hown hb9 hq hnq HC HO HB s0 s1 s2
      have hA := HC9.out
      have y0 := obj_cell hA 0
      have y1 := obj_cell hA 1
      have y2 := obj_cell hA 2
      have yf0 := obj_free hA 0
      have yf1 := obj_free hA 1
      have yf2 := obj_free hA 2
      simp at y0 y1 y2
      clear hA
      obtain ⟨w6, hw6⟩ : ∃ W, W = w9.setCell ⟨bC, 1, none⟩ (.slice aq nq cq) := ⟨_, rfl⟩
      have HB6 : Hid (Below w3.heap.size w3 w6) := Lib.hid (by rw [hw6]; exact HB9.out.setCell HLE.out _)
      have HC6 : Hid (w6.heap[bC]? = some (.cells #[.slice a0 n0 c0, .slice aq nq cq, .slice am nm cm] 29 (0, 0))) := Lib.hid (by rw [hw6]; simpa using obj_set HC9.out 1 (.slice aq nq cq))
      have HRC : Hid (RegAt w6 (.slice a0 n0 c0) (.slice aq nq cq) (.slice am nm cm) ⟨r.secs, q, untilM day r.ms⟩) := Lib.hid ⟨HI3.out.reg.secs.below HB6.out, ListAt.owns (by rw [hw6]; exact ownsRow_setCell_below HH9.out (Nat.lt_succ_self bC) _), ListAt.owns (by rw [hw6]; exact ownsRow_setCell_below HO9.out (Nat.lt_succ_self bC) _)⟩
      have HI6 := Lib.hid (HI3.out.below HB6.out)
      clear HH9 HO9
      go_upto_region 13 with fail
      rw [← hw6]
      clear hw6 y0 y1 y2 yf0 yf1 yf2 HC9 HB9
      have HSI : Hid (∀ {W}, Below w6.heap.size w6 W → SI w1 tb W) := Lib.hid fun h => HI6.out.si.below h
      obtain ⟨J, hJ⟩ : ∃ J, J = fun W : World => Below w6.heap.size w6 W := ⟨_, rfl⟩
      have HJO : Hid (∀ W, J W → Below w6.heap.size w6 W) := Lib.hid fun W hW => by rw [hJ] at hW; exact hW
      have HJI : Hid (∀ W, Below w6.heap.size w6 W → J W) := Lib.hid fun W hW => by rw [hJ]; exact hW
      have HJD : Hid (∀ W, J W → J W.drew) := Lib.hid fun W hW => HJI.out _ ((HJO.out W hW).drew)
      have HJ0 : Hid (J w6) := Lib.hid (HJI.out _ (Below.refl _ _))
      have HJB : Hid (∀ W W', J W → Below W.heap.size W W' → J W') := Lib.hid fun W W' hW hb => HJI.out _ ((HJO.out W hW).trans (hb.mono (HJO.out W hW).size))
      have HCR : Hid (∀ W, J W → ∀ j, W.cell? ⟨bR, j, none⟩ = #[.slice a0 n0 c0, .slice b0 m0 d0, .slice aM i cM][j]?) := Lib.hid fun W hW j => obj_cell (obj_below HI6.out.box (HJO.out W hW)) j
      have HCC : Hid (∀ W, J W → ∀ j, W.cell? ⟨bC, j, none⟩ = #[.slice a0 n0 c0, .slice aq nq cq, .slice am nm cm][j]?) := Lib.hid fun W hW j => obj_cell (obj_below HC6.out (HJO.out W hW)) j
      have HCK : Hid (∀ W, J W → Calls Try.prog 15 #[.agg #[.slice a0 n0 c0, .slice aq nq cq, .slice am nm cm]] W fun e w' => e = .returned (.int .i64 0) ∧ J w' ∧ Below W.heap.size W w') := Lib.hid fun W hW => by
        have h := rxCheck_any ⟨r.secs, q, untilM day r.ms⟩ _ _ _ W HCUT.out.regS (HRC.out.below (HJO.out W hW))
        rw [checkR_ok HCUT.out] at h
        exact h.mono fun e w' ⟨h1, h2⟩ => ⟨h1, HJB.out _ _ hW h2, h2⟩
      have HAT : Hid (∀ W, J W → Calls Try.prog 25 #[.agg #[.slice a0 n0 c0, .slice b0 m0 d0, .slice aM i cM], .int .i64 36000] W fun e w' => ∃ u, e = .returned u ∧ ListAt hldC 3 w' u r.hs ∧ J w' ∧ Below W.heap.size W w') := Lib.hid fun W hW => by
        refine (rxAt_ok r _ _ _ 36000 W HOK.out (HI6.out.reg.below (HJO.out W hW))).mono fun e w' ⟨u, q, h1, h2, h3, h4⟩ => ?_
        rw [HOK.out.last h2] at h3
        exact ⟨u, h1, ListAt.owns h3, HJB.out _ _ hW h4, h4⟩
      have HEQ : Hid (∀ W, J W → ∀ u, ListAt hldC 3 W u r.hs → Calls Try.prog 21 #[u, .slice b0 m0 d0] W fun e w' => e = .returned (.bool true) ∧ J w' ∧ Below W.heap.size W w') := Lib.hid fun W hW u hu => by
        have hl := HOK.out.hsLen
        have h := eqRyH_any u (.slice b0 m0 d0) r.hs r.hs W hu (HI6.out.reg.hs.below (HJO.out W hW)) (by omega) (by omega)
        rw [decide_eq_true rfl] at h
        exact h.mono fun e w' ⟨h1, h2⟩ => ⟨h1, HJB.out _ _ hW h2, h2⟩
      have HSA : Hid (∀ W, J W → Calls Try.prog 17 #[] W fun e w' => e = .returned (.bool true) ∧ J w' ∧ Below W.heap.size W w') := Lib.hid fun W hW => (HSN.out W).mono fun e w' ⟨h1, h2⟩ => ⟨h1, HJB.out _ _ hW h2, h2⟩
      have egK := enters_of Try.func15 (by kernel_rfl) rfl
      have egA := enters_of Try.func25 (by kernel_rfl) rfl
      have egO := enters_of Try.func21 (by kernel_rfl) rfl
      have egS := enters_of Try.func17 (by kernel_rfl) rfl
      clear hJ HOK HI3 HI6 HRC HC6 HCUT HSN HCM
      obtain ⟨P, hP⟩ : ∃ P : Nat → Value → World → Prop, P = fun j v W => match j with | 0 => (v = .agg #[.slice a0 n0 c0, .slice aq nq cq, .slice am nm cm]) | 1 => (v = .int .i64 0) | 2 => (v = .bool true) | 3 => (v = .bool true) | 4 => (v = .agg #[.slice a0 n0 c0, .slice b0 m0 d0, .slice aM i cM]) | 5 => (∃ u, v = u ∧ ListAt hldC 3 W u r.hs) | 6 => (v = .pointer (some ⟨bR, 1, none⟩)) | 7 => (v = .slice b0 m0 d0) | 8 => (v = .bool true) | 9 => (v = .bool true) | 10 => (v = .bool true) | 11 => (v = .bool true) | 12 => (v = .bool true) | 13 => (v = .bool true) | _ => True := ⟨_, rfl⟩
      have HPI0 : Hid (∀ v W, P 0 v W ↔ (v = .agg #[.slice a0 n0 c0, .slice aq nq cq, .slice am nm cm])) := Lib.hid fun v W => by rw [hP] <;> exact Iff.rfl
      have HPI1 : Hid (∀ v W, P 1 v W ↔ (v = .int .i64 0)) := Lib.hid fun v W => by rw [hP] <;> exact Iff.rfl
      have HPI2 : Hid (∀ v W, P 2 v W ↔ (v = .bool true)) := Lib.hid fun v W => by rw [hP] <;> exact Iff.rfl
      have HPI3 : Hid (∀ v W, P 3 v W ↔ (v = .bool true)) := Lib.hid fun v W => by rw [hP] <;> exact Iff.rfl
      have HPI4 : Hid (∀ v W, P 4 v W ↔ (v = .agg #[.slice a0 n0 c0, .slice b0 m0 d0, .slice aM i cM])) := Lib.hid fun v W => by rw [hP] <;> exact Iff.rfl
      have HPI5 : Hid (∀ v W, P 5 v W ↔ (∃ u, v = u ∧ ListAt hldC 3 W u r.hs)) := Lib.hid fun v W => by rw [hP] <;> exact Iff.rfl
      have HPI6 : Hid (∀ v W, P 6 v W ↔ (v = .pointer (some ⟨bR, 1, none⟩))) := Lib.hid fun v W => by rw [hP] <;> exact Iff.rfl
      have HPI7 : Hid (∀ v W, P 7 v W ↔ (v = .slice b0 m0 d0)) := Lib.hid fun v W => by rw [hP] <;> exact Iff.rfl
      have HPI8 : Hid (∀ v W, P 8 v W ↔ (v = .bool true)) := Lib.hid fun v W => by rw [hP] <;> exact Iff.rfl
      have HPI9 : Hid (∀ v W, P 9 v W ↔ (v = .bool true)) := Lib.hid fun v W => by rw [hP] <;> exact Iff.rfl
      have HPI10 : Hid (∀ v W, P 10 v W ↔ (v = .bool true)) := Lib.hid fun v W => by rw [hP] <;> exact Iff.rfl
      have HPI11 : Hid (∀ v W, P 11 v W ↔ (v = .bool true)) := Lib.hid fun v W => by rw [hP] <;> exact Iff.rfl
      have HPI12 : Hid (∀ v W, P 12 v W ↔ (v = .bool true)) := Lib.hid fun v W => by rw [hP] <;> exact Iff.rfl
      have HPI13 : Hid (∀ v W, P 13 v W ↔ (v = .bool true)) := Lib.hid fun v W => by rw [hP] <;> exact Iff.rfl
      have HKP : Hid (∀ (j : Nat) v W W', Below W.heap.size W W' → P j v W → P j v W') := Lib.hid (by
        rw [hP]
        intro j v W W' hb h
        match j, h with
        | 0, h => exact h
        | 1, h => exact h
        | 2, h => exact h
        | 3, h => exact h
        | 4, h => exact h
        | 5, ⟨u, e, s0⟩ => exact ⟨u, e, s0.below hb⟩
        | 6, h => exact h
        | 7, h => exact h
        | 8, h => exact h
        | 9, h => exact h
        | 10, h => exact h
        | 11, h => exact h
        | 12, h => exact h
        | 13, h => exact h
        | j + 14, _ => trivial)
      clear hP
      refine wp_region_props [46, 47, 48, 49, 50, 51, 52, 53, 54, 55, 56, 57, 58, 4] (slotS [46, 47, 48, 49, 50, 51, 52, 53, 54, 55, 56, 57, 58, 4]) (readsS [46, 47, 48, 49, 50, 51, 52, 53, 54, 55, 56, 57, 58, 4]) (RP [46, 47, 48, 49, 50, 51, 52, 53, 54, 55, 56, 57, 58, 4] P) J (by kernel_rfl) (by kernel_rfl) (by kernel_rfl) (HJD.out _ HJ0.out) (fun j f q v W hq h => RP.upd hq h) ?_ ?_
      case refine_1 =>
        intro iq hiq f W hIW hdep0
        have hiq' : iq < 14 := hiq
        have hdep : ∀ j, depB _ iq j = true → P j (f (slotS [46, 47, 48, 49, 50, 51, 52, 53, 54, 55, 56, 57, 58, 4] j)) W := hdep0
        clear hdep0
        generalize ha1 : putsL _ [46, 47, 48, 49, 50, 51, 52, 53, 54, 55, 56, 57, 58, 4] f = a1
        match iq, hiq', hdep with
        | 0, _, hdep0 =>
          have E9 : a1.tmps[9]?.getD undef = .pointer (some ⟨bC, 0, none⟩) := by rw [← ha1]; exact (putsL_out2 _ _ _ _ (by decide)).trans rfl
          have v0 : W.cell? ⟨bC, 0, none⟩ = some (.slice a0 n0 c0) := by simpa using HCC.out W hIW 0
          have v1 : W.cell? ⟨bC, 1, none⟩ = some (.slice aq nq cq) := by simpa using HCC.out W hIW 1
          have v2 : W.cell? ⟨bC, 2, none⟩ = some (.slice am nm cm) := by simpa using HCC.out W hIW 2
          exact wpOp_val rfl rfl (v := .agg #[.slice a0 n0 c0, .slice aq nq cq, .slice am nm cm]) (w' := W) (by simp [execOp, go_sem, E9, v0, v1, v2]) ⟨hIW, fun _ h => h, Or.inl ⟨_, by decide, rfl, RP.set ((HPI0.out _ _).2 rfl)⟩⟩
        | 1, _, hdep0 =>
          have hd0 := (HPI0.out _ _).1 (hdep0 0 (by kernel_rfl))
          have E46 : a1.tmps[46]?.getD undef = .agg #[.slice a0 n0 c0, .slice aq nq cq, .slice am nm cm] := by rw [← ha1]; exact (putsL_in2 _ _ _ _ (by decide) (show 46 < 59 from by decide)).trans hd0
          refine wpOp_call rfl rfl (n := 15) (vs := #[.agg #[.slice a0 n0 c0, .slice aq nq cq, .slice am nm cm]]) (by have := egK #[.agg #[.slice a0 n0 c0, .slice aq nq cq, .slice am nm cm]] W; simp [execOp, E46, resolve, invoke, go_sem] <;> exact this) ((HCK.out W hIW).mono fun e w' hh => (by obtain ⟨rfl, hJ', hb'⟩ := hh; exact ⟨_, rfl, (HPI1.out _ _).2 rfl, hJ', hb'⟩ : ∃ v, e = .returned v ∧ (P 1 v w' ∧ J w' ∧ Below W.heap.size W w'))) ?_
          rintro v w' ⟨hv, hI', hb'⟩
          exact ⟨hI', fun j h => HKP.out j _ _ _ hb' h, Or.inl ⟨_, by decide, rfl, RP.set hv⟩⟩
        | 2, _, hdep0 =>
          have hd1 := (HPI1.out _ _).1 (hdep0 1 (by kernel_rfl))
          have E47 : a1.tmps[47]?.getD undef = .int .i64 0 := by rw [← ha1]; exact (putsL_in2 _ _ _ _ (by decide) (show 47 < 59 from by decide)).trans hd1
          exact wpOp_val rfl rfl (v := .bool true) (w' := W) (by simp [execOp, go_sem, E47]) ⟨hIW, fun _ h => h, Or.inl ⟨_, by decide, rfl, RP.set ((HPI2.out _ _).2 rfl)⟩⟩
        | 3, _, hdep0 =>
          have hd2 := (HPI2.out _ _).1 (hdep0 2 (by kernel_rfl))
          have E48 : a1.tmps[48]?.getD undef = .bool true := by rw [← ha1]; exact (putsL_in2 _ _ _ _ (by decide) (show 48 < 59 from by decide)).trans hd2
          exact wpOp_val rfl rfl (v := .bool true) (w' := W) (by simp [execOp, go_sem, E48]) ⟨hIW, fun _ h => h, Or.inl ⟨_, by decide, rfl, RP.set ((HPI3.out _ _).2 rfl)⟩⟩
        | 4, _, hdep0 =>
          have hd3 := (HPI3.out _ _).1 (hdep0 3 (by kernel_rfl))
          have G3 : a1.tmps[49]? = some (.bool true) := by rw [← ha1]; exact (putsL_some _ _ _ _ (by decide) (show 49 < 59 from by decide)).trans (congrArg some hd3)
          have E6 : a1.tmps[6]?.getD undef = .pointer (some ⟨bR, 0, none⟩) := by rw [← ha1]; exact (putsL_out2 _ _ _ _ (by decide)).trans rfl
          have v0 : W.cell? ⟨bR, 0, none⟩ = some (.slice a0 n0 c0) := by simpa using HCR.out W hIW 0
          have v1 : W.cell? ⟨bR, 1, none⟩ = some (.slice b0 m0 d0) := by simpa using HCR.out W hIW 1
          have v2 : W.cell? ⟨bR, 2, none⟩ = some (.slice aM i cM) := by simpa using HCR.out W hIW 2
          exact wpOp_valG rfl rfl (yielded_of rfl G3) (v := .agg #[.slice a0 n0 c0, .slice b0 m0 d0, .slice aM i cM]) (w' := W) (by simp [execOp, go_sem, E6, v0, v1, v2]) ⟨hIW, fun _ h => h, Or.inl ⟨_, by decide, rfl, RP.set ((HPI4.out _ _).2 rfl)⟩⟩
        | 5, _, hdep0 =>
          have hd3 := (HPI3.out _ _).1 (hdep0 3 (by kernel_rfl))
          have hd4 := (HPI4.out _ _).1 (hdep0 4 (by kernel_rfl))
          have G3 : a1.tmps[49]? = some (.bool true) := by rw [← ha1]; exact (putsL_some _ _ _ _ (by decide) (show 49 < 59 from by decide)).trans (congrArg some hd3)
          have E50 : a1.tmps[50]?.getD undef = .agg #[.slice a0 n0 c0, .slice b0 m0 d0, .slice aM i cM] := by rw [← ha1]; exact (putsL_in2 _ _ _ _ (by decide) (show 50 < 59 from by decide)).trans hd4
          refine wpOp_callG rfl rfl (yielded_of rfl G3) (n := 25) (vs := #[.agg #[.slice a0 n0 c0, .slice b0 m0 d0, .slice aM i cM], .int .i64 36000]) (by have := egA #[.agg #[.slice a0 n0 c0, .slice b0 m0 d0, .slice aM i cM], .int .i64 36000] W; simp [execOp, E50, resolve, invoke, go_sem] <;> exact this) ((HAT.out W hIW).mono fun e w' hh => (by obtain ⟨u, rfl, p0, hJ', hb'⟩ := hh; exact ⟨_, rfl, (HPI5.out _ _).2 ⟨_, rfl, p0⟩, hJ', hb'⟩ : ∃ v, e = .returned v ∧ (P 5 v w' ∧ J w' ∧ Below W.heap.size W w'))) ?_
          rintro v w' ⟨hv, hI', hb'⟩
          exact ⟨hI', fun j h => HKP.out j _ _ _ hb' h, Or.inl ⟨_, by decide, rfl, RP.set hv⟩⟩
        | 6, _, hdep0 =>
          have hd3 := (HPI3.out _ _).1 (hdep0 3 (by kernel_rfl))
          have G3 : a1.tmps[49]? = some (.bool true) := by rw [← ha1]; exact (putsL_some _ _ _ _ (by decide) (show 49 < 59 from by decide)).trans (congrArg some hd3)
          have E6 : a1.tmps[6]?.getD undef = .pointer (some ⟨bR, 0, none⟩) := by rw [← ha1]; exact (putsL_out2 _ _ _ _ (by decide)).trans rfl
          exact wpOp_valG rfl rfl (yielded_of rfl G3) (v := .pointer (some ⟨bR, 1, none⟩)) (w' := W) (by simp [execOp, go_sem, E6]) ⟨hIW, fun _ h => h, Or.inl ⟨_, by decide, rfl, RP.set ((HPI6.out _ _).2 rfl)⟩⟩
        | 7, _, hdep0 =>
          have hd3 := (HPI3.out _ _).1 (hdep0 3 (by kernel_rfl))
          have hd6 := (HPI6.out _ _).1 (hdep0 6 (by kernel_rfl))
          have G3 : a1.tmps[49]? = some (.bool true) := by rw [← ha1]; exact (putsL_some _ _ _ _ (by decide) (show 49 < 59 from by decide)).trans (congrArg some hd3)
          have E52 : a1.tmps[52]?.getD undef = .pointer (some ⟨bR, 1, none⟩) := by rw [← ha1]; exact (putsL_in2 _ _ _ _ (by decide) (show 52 < 59 from by decide)).trans hd6
          have v1 : W.cell? ⟨bR, 1, none⟩ = some (.slice b0 m0 d0) := by simpa using HCR.out W hIW 1
          exact wpOp_valG rfl rfl (yielded_of rfl G3) (v := .slice b0 m0 d0) (w' := W) (by simp [execOp, go_sem, E52, v1]) ⟨hIW, fun _ h => h, Or.inl ⟨_, by decide, rfl, RP.set ((HPI7.out _ _).2 rfl)⟩⟩
        | 8, _, hdep0 =>
          have hd3 := (HPI3.out _ _).1 (hdep0 3 (by kernel_rfl))
          have hd5 := (HPI5.out _ _).1 (hdep0 5 (by kernel_rfl))
          have hd7 := (HPI7.out _ _).1 (hdep0 7 (by kernel_rfl))
          have G3 : a1.tmps[49]? = some (.bool true) := by rw [← ha1]; exact (putsL_some _ _ _ _ (by decide) (show 49 < 59 from by decide)).trans (congrArg some hd3)
          obtain ⟨u, q5, r5_0⟩ := hd5
          have E51 : a1.tmps[51]?.getD undef = u := by rw [← ha1]; exact (putsL_in2 _ _ _ _ (by decide) (show 51 < 59 from by decide)).trans q5
          have E53 : a1.tmps[53]?.getD undef = .slice b0 m0 d0 := by rw [← ha1]; exact (putsL_in2 _ _ _ _ (by decide) (show 53 < 59 from by decide)).trans hd7
          refine wpOp_callG rfl rfl (yielded_of rfl G3) (n := 21) (vs := #[u, .slice b0 m0 d0]) (by have := egO #[u, .slice b0 m0 d0] W; simp [execOp, E51, E53, resolve, invoke, go_sem] <;> exact this) ((HEQ.out W hIW u r5_0).mono fun e w' hh => (by obtain ⟨rfl, hJ', hb'⟩ := hh; exact ⟨_, rfl, (HPI8.out _ _).2 rfl, hJ', hb'⟩ : ∃ v, e = .returned v ∧ (P 8 v w' ∧ J w' ∧ Below W.heap.size W w'))) ?_
          rintro v w' ⟨hv, hI', hb'⟩
          exact ⟨hI', fun j h => HKP.out j _ _ _ hb' h, Or.inl ⟨_, by decide, rfl, RP.set hv⟩⟩
        | 9, _, hdep0 =>
          have hd3 := (HPI3.out _ _).1 (hdep0 3 (by kernel_rfl))
          have hd8 := (HPI8.out _ _).1 (hdep0 8 (by kernel_rfl))
          have E49 : a1.tmps[49]?.getD undef = .bool true := by rw [← ha1]; exact (putsL_in2 _ _ _ _ (by decide) (show 49 < 59 from by decide)).trans hd3
          have E54 : a1.tmps[54]?.getD undef = .bool true := by rw [← ha1]; exact (putsL_in2 _ _ _ _ (by decide) (show 54 < 59 from by decide)).trans hd8
          exact wpOp_val rfl rfl (v := .bool true) (w' := W) (by simp [execOp, go_sem, E49, E54]) ⟨hIW, fun _ h => h, Or.inl ⟨_, by decide, rfl, RP.set ((HPI9.out _ _).2 rfl)⟩⟩
        | 10, _, hdep0 =>
          have hd9 := (HPI9.out _ _).1 (hdep0 9 (by kernel_rfl))
          have E55 : a1.tmps[55]?.getD undef = .bool true := by rw [← ha1]; exact (putsL_in2 _ _ _ _ (by decide) (show 55 < 59 from by decide)).trans hd9
          exact wpOp_val rfl rfl (v := .bool true) (w' := W) (by simp [execOp, go_sem, E55]) ⟨hIW, fun _ h => h, Or.inl ⟨_, by decide, rfl, RP.set ((HPI10.out _ _).2 rfl)⟩⟩
        | 11, _, hdep0 =>
          have hd10 := (HPI10.out _ _).1 (hdep0 10 (by kernel_rfl))
          have G10 : a1.tmps[56]? = some (.bool true) := by rw [← ha1]; exact (putsL_some _ _ _ _ (by decide) (show 56 < 59 from by decide)).trans (congrArg some hd10)
          refine wpOp_callG rfl rfl (yielded_of rfl G10) (n := 17) (vs := #[]) (by have := egS #[] W; simp [execOp, go_sem, resolve, invoke, go_sem] <;> exact this) ((HSA.out W hIW).mono fun e w' hh => (by obtain ⟨rfl, hJ', hb'⟩ := hh; exact ⟨_, rfl, (HPI11.out _ _).2 rfl, hJ', hb'⟩ : ∃ v, e = .returned v ∧ (P 11 v w' ∧ J w' ∧ Below W.heap.size W w'))) ?_
          rintro v w' ⟨hv, hI', hb'⟩
          exact ⟨hI', fun j h => HKP.out j _ _ _ hb' h, Or.inl ⟨_, by decide, rfl, RP.set hv⟩⟩
        | 12, _, hdep0 =>
          have hd10 := (HPI10.out _ _).1 (hdep0 10 (by kernel_rfl))
          have hd11 := (HPI11.out _ _).1 (hdep0 11 (by kernel_rfl))
          have E56 : a1.tmps[56]?.getD undef = .bool true := by rw [← ha1]; exact (putsL_in2 _ _ _ _ (by decide) (show 56 < 59 from by decide)).trans hd10
          have E57 : a1.tmps[57]?.getD undef = .bool true := by rw [← ha1]; exact (putsL_in2 _ _ _ _ (by decide) (show 57 < 59 from by decide)).trans hd11
          exact wpOp_val rfl rfl (v := .bool true) (w' := W) (by simp [execOp, go_sem, E56, E57]) ⟨hIW, fun _ h => h, Or.inl ⟨_, by decide, rfl, RP.set ((HPI12.out _ _).2 rfl)⟩⟩
        | 13, _, hdep0 =>
          have hd12 := (HPI12.out _ _).1 (hdep0 12 (by kernel_rfl))
          have E58 : a1.tmps[58]?.getD undef = .bool true := by rw [← ha1]; exact (putsL_in2 _ _ _ _ (by decide) (show 58 < 59 from by decide)).trans hd12
          exact wpOp_val rfl rfl (v := .bool true) (w' := W) (by simp [execOp, go_sem, E58]) ⟨hIW, fun _ h => h, Or.inl ⟨_, by decide, rfl, RP.set ((HPI13.out _ _).2 rfl)⟩⟩
        | iq + 14, h, _ => exact absurd h (by omega)
      case refine_2 =>
        intro f W hIW hR
        have h4 := (HPI13.out _ _).1 (hR 13 (show 13 < 14 from by decide))
        simp only [putsL, List.foldl_cons, List.foldl_nil, Act.put, List.setIfInBounds_toArray, List.set_cons_zero, List.set_cons_succ]
        have h4a : f 4 = .bool true := h4
        have HE := Lib.hid (HJO.out W hIW)
        go_wp2
        refine bodyPost_ret (v := .bool true) (by simp [results, Try.results7, go_sem, h4a]) rfl ⟨rfl, HFIN.out _ (HSI.out HE.out)⟩

end Go.Proofs.Ytnfllgeneehjjaa
