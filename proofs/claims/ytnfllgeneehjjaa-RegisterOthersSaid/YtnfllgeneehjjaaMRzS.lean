/- The theorem of the register: what is outstanding of each security is what was issued less what was redeemed, and the debt is the sum over all: for every tape. -/
import Derived.Test.YtnfllgeneehjjaaMRzR
import Derived.Test.YtnfllgeneehjjaaMRzM
import Derived.Test.YtnfllgeneehjjaaMRhY
set_option linter.unusedSimpArgs false
set_option linter.unusedVariables false
set_option linter.unusedSimpArgs false
set_option linter.unusedVariables false
namespace Go.Proofs.Ytnfllgeneehjjaa
open Go.RowKit Go.Lib Go.Proofs

theorem RegAt.src {w : World} {x y z : Value} {r : Reg} (h : RegAt w x y z r) : RegAt w.drew x y z r := h.below (Below.refl _ _).drew

set_option maxRecDepth 100000 in
set_option maxHeartbeats 16000000 in
theorem rhsums_any (v : Value) (n : Nat) (w : World) (hi : IntsAt w v n w.heap.size) (hn : n ≤ 9223372036854775807) :
    Calls Try.prog 3 #[v] w fun e w' => e = .returned (.bool true) ∧ Below w.heap.size w w' := by
  have HNEW := Lib.hid (sNew_any v n w hi hn)
  have HSN := Lib.hid sane33_true
  clear hi hn
  go_enter Try.func3, Try.ntmps3
  go_wp2_with fail
  refine (HNEW.out).mono ?_
  rintro e w1 ⟨rfl, t1, b1⟩
  obtain ⟨tb, htb⟩ : ∃ tb, tb = w.heap.size := ⟨_, rfl⟩
  rw [← htb] at t1 ⊢
  have HRG := Lib.hid (sRegister_any tb 4 w1 t1 (by omega))
  have HFIN : Hid (∀ W, SI w1 tb W → Below w.heap.size w W) := Lib.hid fun W hW => b1.grown hW.old b1.size (fun q e => by injection e with e; omega)
  clear t1 b1 HNEW htb
  go_wp2_with fail
  with_reducible refine Calls.mono HRG.out ?_
  rintro e w2 ⟨x, y, z, r, d, rfl, hG, hs0, hs1, hml, hd, hra, hsi⟩
  obtain ⟨a0, n0, c0, b0, m0, d0, e0, k0, f0, rfl, rfl, rfl⟩ := hra.slices
  obtain ⟨bL, hbL⟩ : ∃ b, b = w2.heap.size := ⟨_, rfl⟩
  obtain ⟨w3, hw3⟩ : ∃ W, W = w2.alloc (.cells #[.slice a0 n0 c0, .slice b0 m0 d0, .slice e0 k0 f0] 29) := ⟨_, rfl⟩
  have HI3 : Hid (RgI w1 tb bL (.slice a0 n0 c0) (.slice b0 m0 d0) (.slice e0 k0 f0) r w3) := Lib.hid (by
    rw [hw3, hbL]
    have hlt := hsi.lt
    have hsz := hsi.old.size
    exact ⟨hsi.alloc _, heap_alloc_new _ _, hra.below (below_alloc _ _), by omega, hsz⟩)
  have HG := Lib.hid hG
  have HML : Hid (r.ms.length + 0 ≤ 4 + 0) := Lib.hid (by omega)
  clear hG hra hsi hml HRG
  go_upto_region 3 with fail
  rw [← hw3, ← hbL]
  clear hw3 hbL
  go_wp2
  go_loopw [5, 6] (fun dv kv wr => ∃ (r : Reg) (d : Int) (k : Nat) (a0 : Option Addr) (n0 c0 : Nat) (b0 : Option Addr) (m0 d0 : Nat) (e0 : Option Addr) (k0 f0 : Nat), dv = .int .i64 d ∧ kv = .int .i64 (k : Int) ∧ k ≤ 10 ∧ 0 ≤ d ∧ d ≤ 400 + 100 * (k : Int) ∧ Hid (RegG r) ∧ Hid (RgI w1 tb bL (.slice a0 n0 c0) (.slice b0 m0 d0) (.slice e0 k0 f0) r wr)) (fun _ kv _ => 10 - (RowKit.intOf kv).toNat)
  case atStart => exact ⟨r, d, 0, _, _, _, _, _, _, _, _, _, rfl, rfl, by omega, hd.1, by have := hd.2; omega, HG, HI3⟩
  case round =>
    clear HG HI3 HML hd hs0 hs1
    obtain ⟨r, d, k, a0, n0, c0, b0, m0, d0, e0, k0, f0, rfl, rfl, hk, hd0, hd1, HG, HI⟩ := hrel
    by_cases hk10 : k < 10
    · have hkk : (k : Int) < 10 := by omega
      have hbox := HI.out.box
      have s0 := obj_cell hbox 0
      have s1 := obj_cell hbox 1
      have s2 := obj_cell hbox 2
      simp at s0 s1 s2
      clear hbox
      go_wp2_with fail
      with_reducible refine Calls.mono (sDeal_ok tb r _ _ _ d _ HI.out.si.src HG.out.ok HI.out.reg ⟨hd0, by omega⟩) ?_
      rintro e w8 ⟨x', y', z', r', d', rfl, hdl, hrr, hi8⟩
      obtain ⟨p0, q0, u0, p1, q1, u1, p2, q2, u2, rfl, rfl, rfl⟩ := hrr.slices
      have hdd := hdl.day
      have HG2 := Lib.hid (hdl.gen HG.out)
      have HI8 := Lib.hid (HI.out.turn hi8.src hi8.old)
      have HRR := Lib.hid hrr
      clear hdl hrr hi8 s0 s1 s2 HI HG
      have hA := HI8.out.box
      have s0 := obj_cell hA 0
      have s1 := obj_cell hA 1
      have s2 := obj_cell hA 2
      have sf0 := obj_free hA 0
      have sf1 := obj_free hA 1
      have sf2 := obj_free hA 2
      simp at s0 s1 s2
      have HD10 : Hid (RgI w1 tb bL (.slice p0 q0 u0) (.slice p1 q1 u1) (.slice p2 q2 u2) r' (put3 w8 bL (.slice p0 q0 u0) (.slice p1 q1 u1) (.slice p2 q2 u2))) := Lib.hid (by
        have hg := put3_grown w8 bL (.slice p0 q0 u0) (.slice p1 q1 u1) (.slice p2 q2 u2)
        exact ⟨HI8.out.si.grown hg (fun q e => by injection e with e; have := HI8.out.out; omega), put3_at hA rfl _ _ _, HRR.out.keepL (lone_reg hA) hg, HI8.out.ne, HI8.out.out⟩)
      obtain ⟨W0, hW0⟩ : ∃ W, W = put3 w8 bL (.slice p0 q0 u0) (.slice p1 q1 u1) (.slice p2 q2 u2) := ⟨_, rfl⟩
      rw [← hW0] at HD10
      unfold put3 at hW0
      clear hA HI8
      go_upto_region 8 with fail
      rw [← hW0]
      clear hW0 s0 s1 s2 sf0 sf1 sf2 HRR
      have HRD : Hid (∀ W, Below W0.heap.size W0 W → RgI w1 tb bL (.slice p0 q0 u0) (.slice p1 q1 u1) (.slice p2 q2 u2) r' W) := Lib.hid fun W hW => HD10.out.below hW
      have hA := HD10.out.box
      have s0 := obj_cell hA 0
      have s2 := obj_cell hA 2
      simp at s0 s2
      clear hA
      obtain ⟨aS, cS, hxe, hcapS, hcsS⟩ := HD10.out.reg.secs.shape secF
      obtain ⟨aM, cM, hze, hcapM, hcsM⟩ := HD10.out.reg.ms.shape mvF
      obtain ⟨nS, hnS⟩ : ∃ n, n = r'.secs.length := ⟨_, rfl⟩
      obtain ⟨nM, hnM⟩ : ∃ n, n = r'.ms.length := ⟨_, rfl⟩
      have hnS20 : nS ≤ 20 := by rw [hnS]; exact HG2.out.ok.secs.len
      have hnM4 : nM ≤ 400 := by rw [hnM]; exact HG2.out.ok.len
      rw [← hnS] at hxe
      rw [← hnM] at hze
      injection hxe with hxe1 hxe2 hxe3
      injection hze with hze1 hze2 hze3
      replace hxe1 := hxe1.symm
      replace hxe2 := hxe2.symm
      replace hxe3 := hxe3.symm
      replace hze1 := hze1.symm
      replace hze2 := hze2.symm
      replace hze3 := hze3.symm
      subst hxe1 hxe2 hxe3 hze1 hze2 hze3
      have HCS := Lib.hid hcsS
      have HCM := Lib.hid hcsM
      have HNS := Lib.hid hnS
      have HNM := Lib.hid hnM
      clear hcsS hcsM hnS hnM
      go_wp2
      clear s0 s2
      go_loopw [7, 34] (fun dbv jv wr => ∃ (j : Nat) (db : Int), dbv = .int .i64 db ∧ jv = .int .i64 (j : Int) ∧ j ≤ nS ∧ 0 ≤ db ∧ db ≤ 1000000000000 * (j : Int) ∧ Hid (db = sumS (outM r'.hs) (r'.secs.take j)) ∧ Hid (Below W0.heap.size W0 wr)) (fun _ jv _ => nS - (RowKit.intOf jv).toNat)
      case atStart => exact ⟨0, 0, rfl, rfl, by omega, by omega, by omega, Lib.hid rfl, Lib.hid (Below.refl _ _)⟩
      case round =>
        obtain ⟨j, db, rfl, rfl, hj, hdb0, hdb1, HDB, HB⟩ := hrel
        by_cases hjn : j < nS
        · have hjl : j < r'.secs.length := by rw [← HNS.out]; exact hjn
          obtain ⟨b, o, hbo, hb, hcc⟩ := HCS.out (by rw [← HNS.out]; omega)
          subst hbo
          have hcell := fun i (hi : i < 7) => (HB.out.cell (p := ⟨b, o + j * 7 + i, none⟩) hb).trans (hcc j hjl i hi)
          have HSS : Hid (sumS (outM r'.hs) (r'.secs.take (j + 1)) = sumS (outM r'.hs) (r'.secs.take j) + outM r'.hs (r'.secs[j]).id) := Lib.hid (by rw [List.take_succ_eq_append_getElem hjl, sumS_snoc])
          have HUN := Lib.hid (HG2.out.ok.unit (List.getElem_mem hjl))
          have hun := ((HG2.out.ok.secs.ok _ (List.getElem_mem hjl)).unit).1
          generalize r'.secs[j] = s at *
          obtain ⟨t0, t1, t2, t3, t4, t5, t6⟩ := s
          simp only at HUN hun HSS
          have c0 : wr.cell? ⟨b, o + j * 7, none⟩ = some (.int .i64 t0) := hcell 0 (by omega)
          have c1 : wr.cell? ⟨b, o + j * 7 + 1, none⟩ = some (.int .i64 t1) := hcell 1 (by omega)
          have c2 : wr.cell? ⟨b, o + j * 7 + 2, none⟩ = some (.int .i64 t2) := hcell 2 (by omega)
          have c3 : wr.cell? ⟨b, o + j * 7 + 3, none⟩ = some (.int .i64 t3) := hcell 3 (by omega)
          have c4 : wr.cell? ⟨b, o + j * 7 + 4, none⟩ = some (.int .i64 t4) := hcell 4 (by omega)
          have c5 : wr.cell? ⟨b, o + j * 7 + 5, none⟩ = some (.int .i64 t5) := hcell 5 (by omega)
          have c6 : wr.cell? ⟨b, o + j * 7 + 6, none⟩ = some (.bool t6) := hcell 6 (by omega)
          have hj0 : (0 : Int) ≤ (j : Int) := by omega
          have hj1 : (j : Int) < (nS : Int) := by omega
          obtain ⟨bS, hbS⟩ : ∃ b, b = wr.heap.size := ⟨_, rfl⟩
          obtain ⟨W2, hW2⟩ : ∃ W2, W2 = wr.alloc (.cells #[.int .i64 t0, .int .i64 t1, .int .i64 t2, .int .i64 t3, .int .i64 t4, .int .i64 t5, .bool t6] 34) := ⟨_, rfl⟩
          have HB2 : Hid (Below W0.heap.size W0 W2) := Lib.hid (by rw [hW2]; exact HB.out.alloc HB.out.size _)
          have HS2 : Hid (W2.heap[bS]? = some (.cells #[.int .i64 t0, .int .i64 t1, .int .i64 t2, .int .i64 t3, .int .i64 t4, .int .i64 t5, .bool t6] 34 (0, 0))) := Lib.hid (by rw [hW2, hbS]; exact heap_alloc_new wr _)
          have HSK : Hid (∀ W, Below W2.heap.size W2 W → W.heap[bS]? = some (.cells #[.int .i64 t0, .int .i64 t1, .int .i64 t2, .int .i64 t3, .int .i64 t4, .int .i64 t5, .bool t6] 34 (0, 0))) := Lib.hid fun W hW => obj_below HS2.out hW
          have HBK : Hid (∀ W, Below W2.heap.size W2 W → Below W0.heap.size W0 W) := Lib.hid fun W hW => HB2.out.trans (hW.mono HB2.out.size)
          clear hcell hcc HB
          have hA := (HRD.out _ HB2.out).box
          have g2 := obj_cell hA 2
          simp at g2
          clear hA
          go_upto_region 12 with fail
          rw [← hW2, ← hbS]
          clear hW2 hbS c0 c1 c2 c3 c4 c5 c6
          go_wp2
          clear g2
          go_loopw [10, 41] (fun nv iv wr => ∃ (i : Nat) (nn : Int), nv = .int .i64 nn ∧ iv = .int .i64 (i : Int) ∧ i ≤ nM ∧ -1000000000000 * (i : Int) ≤ nn ∧ nn ≤ 1000000000000 * (i : Int) ∧ Hid (nn = issL t0 (r'.ms.take i)) ∧ Hid (Below W2.heap.size W2 wr)) (fun _ iv _ => nM - (RowKit.intOf iv).toNat)
          case atStart => exact ⟨0, 0, rfl, rfl, by omega, by omega, by omega, Lib.hid rfl, Lib.hid (Below.refl _ _)⟩
          case round =>
            obtain ⟨i, nn, rfl, rfl, hi, hnn0, hnn1, HNN, HB⟩ := hrel
            have hA := HSK.out _ HB.out
            have y0 := obj_cell hA 0
            have y1 := obj_cell hA 1
            simp at y0 y1
            clear hA
            by_cases hin : i < nM
            · have hil : i < r'.ms.length := by rw [← HNM.out]; exact hin
              obtain ⟨b', o', hbo', hb', hcc'⟩ := HCM.out (by rw [← HNM.out]; omega)
              subst hbo'
              have HBW := Lib.hid (HBK.out _ HB.out)
              have hcell := fun i' (hi' : i' < 7) => (HBW.out.cell (p := ⟨b', o' + i * 7 + i', none⟩) hb').trans (hcc' i hil i' hi')
              have HIS : Hid (issL t0 (r'.ms.take (i + 1)) = issL t0 (r'.ms.take i) + issM (r'.ms[i]) t0) := Lib.hid (by rw [List.take_succ_eq_append_getElem hil, issL_snoc])
              have hamt := HG2.out.ok.amts _ (List.getElem_mem hil)
              generalize r'.ms[i] = m at *
              obtain ⟨x0, x1, x2, x3, x4, x5, x6⟩ := m
              simp only at hamt
              have c0 : wr.cell? ⟨b', o' + i * 7, none⟩ = some (.int .i64 x0) := hcell 0 (by omega)
              have c1 : wr.cell? ⟨b', o' + i * 7 + 1, none⟩ = some (.int .i64 x1) := hcell 1 (by omega)
              have c2 : wr.cell? ⟨b', o' + i * 7 + 2, none⟩ = some (.int .i64 x2) := hcell 2 (by omega)
              have c3 : wr.cell? ⟨b', o' + i * 7 + 3, none⟩ = some (.int .i64 x3) := hcell 3 (by omega)
              have c4 : wr.cell? ⟨b', o' + i * 7 + 4, none⟩ = some (.int .i64 x4) := hcell 4 (by omega)
              have c5 : wr.cell? ⟨b', o' + i * 7 + 5, none⟩ = some (.int .i64 x5) := hcell 5 (by omega)
              have c6 : wr.cell? ⟨b', o' + i * 7 + 6, none⟩ = some (.int .i64 x6) := hcell 6 (by omega)
              have hi0 : (0 : Int) ≤ (i : Int) := by omega
              have hi1 : (i : Int) < (nM : Int) := by omega
              obtain ⟨W3, hW3⟩ : ∃ W3, W3 = wr.alloc (.cells #[.int .i64 x0, .int .i64 x1, .int .i64 x2, .int .i64 x3, .int .i64 x4, .int .i64 x5, .int .i64 x6] 36) := ⟨_, rfl⟩
              obtain ⟨bM, hbM⟩ : ∃ b, b = wr.heap.size := ⟨_, rfl⟩
              have HB3 : Hid (Below W2.heap.size W2 W3) := Lib.hid (by rw [hW3]; exact HB.out.alloc HB.out.size _)
              have hM3 : W3.heap[bM]? = some (.cells #[.int .i64 x0, .int .i64 x1, .int .i64 x2, .int .i64 x3, .int .i64 x4, .int .i64 x5, .int .i64 x6] 36 (0, 0)) := by rw [hW3, hbM]; exact heap_alloc_new wr _
              clear hcell hcc'
              go_upto_region 15 with fail
              rw [← hW3, ← hbM]
              clear hW3 hbM c0 c1 c2 c3 c4 c5 c6 y0 y1
              have hA := HSK.out _ HB3.out
              have y0 := obj_cell hA 0
              have d2 := obj_cell hM3 2
              have d3 := obj_cell hM3 3
              have d6 := obj_cell hM3 6
              simp at y0 d2 d3 d6
              clear hA hM3
              rw [← HNN.out] at HIS
              by_cases e1 : x3 = t0
              · by_cases e2 : x2 = 1
                · have h2 : issM ⟨x0, x1, x2, x3, x4, x5, x6⟩ t0 = x6 := by unfold issM; rw [if_pos e1, if_pos e2]
                  rw [h2] at HIS
                  have hw : IntKind.i64.wrap (nn + x6) = nn + x6 := IntWalk.i64_in _ (by omega)
                  subst e1 e2
                  clear h2
                  go_wp2
                  go_roundw
                  case rel => exact ⟨i + 1, nn + x6, rfl, by first | rfl | go_num, by omega, by push_cast; omega, by push_cast; omega, Lib.hid HIS.out.symm, HB3⟩
                  case measure => simp [RowKit.intOf]; omega
                · by_cases e3 : x2 = 3
                  · have h2 : issM ⟨x0, x1, x2, x3, x4, x5, x6⟩ t0 = -x6 := by unfold issM; rw [if_pos e1, if_neg e2, if_pos e3]
                    rw [h2] at HIS
                    have hw : IntKind.i64.wrap (nn - x6) = nn - x6 := IntWalk.i64_in _ (by omega)
                    subst e1 e3
                    clear h2 e2
                    go_wp2
                    go_roundw
                    case rel => exact ⟨i + 1, nn - x6, rfl, by first | rfl | go_num, by omega, by push_cast; omega, by push_cast; omega, Lib.hid (by rw [HIS.out]; omega), HB3⟩
                    case measure => simp [RowKit.intOf]; omega
                  · have h2 : issM ⟨x0, x1, x2, x3, x4, x5, x6⟩ t0 = 0 := by unfold issM; rw [if_pos e1, if_neg e2, if_neg e3]
                    rw [h2] at HIS
                    have e2b : (x2 == 1) = false := beq_eq_false_iff_ne.2 e2
                    have e3b : (x2 == 3) = false := beq_eq_false_iff_ne.2 e3
                    subst e1
                    clear h2
                    go_wp2
                    go_roundw
                    case rel => exact ⟨i + 1, nn, rfl, by first | rfl | go_num, by omega, by push_cast; omega, by push_cast; omega, Lib.hid (by rw [HIS.out]; omega), HB3⟩
                    case measure => simp [RowKit.intOf]; omega
              · have h2 : issM ⟨x0, x1, x2, x3, x4, x5, x6⟩ t0 = 0 := by unfold issM; rw [if_neg e1]
                rw [h2] at HIS
                have e1b : (x3 == t0) = false := beq_eq_false_iff_ne.2 e1
                clear h2
                go_wp2
                go_roundw
                case rel => exact ⟨i + 1, nn, rfl, by first | rfl | go_num, by omega, by push_cast; omega, by push_cast; omega, Lib.hid (by rw [HIS.out]; omega), HB3⟩
                case measure => simp [RowKit.intOf]; omega
            · obtain rfl : i = nM := by omega
              have hno : nn = outM r'.hs t0 := by rw [HNN.out, HG2.out.ok.out, HNM.out, List.take_length]
              have hnb : 0 ≤ nn ∧ nn ≤ 1000000000000 := by
                rw [hno]
                have h1 := HG2.out.ok.runM.inv.out t0
                have h2 := (sumH_bound (p := isOf t0) HG2.out.ok.runM.inv.ok.ok).1
                unfold outM at h1 ⊢
                exact ⟨h2, h1⟩
              rw [← hno] at HUN HSS
              have hrem : nn % t1 = 0 := HUN.out
              have htm : nn.tmod t1 = 0 := by rw [Int.tmod_eq_emod_of_nonneg hnb.1]; exact hrem
              have hne : t1 ≠ 0 := by omega
              have HBW := Lib.hid (HBK.out _ HB.out)
              have HOU := Lib.hid (rxOutstanding_any r' _ _ _ t0 wr HG2.out.ok.regS (HRD.out _ HBW.out).reg)
              unfold outR at HOU
              rw [if_pos (checkR_ok HG2.out.ok), ← hno] at HOU
              have hA := (HRD.out _ HBW.out).box
              have g0 := obj_cell hA 0
              have g1 := obj_cell hA 1
              have g2 := obj_cell hA 2
              simp at g0 g1 g2
              clear hA hno
              go_wp2_with fail
              with_reducible refine Calls.mono HOU.out ?_
              rintro e w9 ⟨rfl, hb9⟩
              have HB9 := Lib.hid (HB.out.trans (hb9.mono HB.out.size))
              have hA := HSK.out _ HB9.out
              clear y0 y1 g0 g1 g2 hb9
              have y0 := obj_cell hA 0
              have y1 := obj_cell hA 1
              simp at y0 y1
              clear hA
              have hwd : IntKind.i64.wrap (db + nn) = db + nn := IntWalk.i64_in _ (by omega)
              have HSF : Hid (db + nn = sumS (outM r'.hs) (r'.secs.take (j + 1))) := Lib.hid (by rw [HSS.out, ← HDB.out])
              have HBE := Lib.hid (HBK.out _ HB9.out)
              clear hrem
              go_wp2
              go_roundw
              case rel => exact ⟨j + 1, db + nn, rfl, by first | rfl | go_num, by omega, by omega, by push_cast; omega, HSF, HBE⟩
              case measure => simp [RowKit.intOf]; omega
        · obtain rfl : j = nS := by omega
          have hdeb : db = debtM r'.hs := by rw [HDB.out, HNS.out, List.take_length, HG2.out.ok.debt]
          have HCK := Lib.hid (fun W (hW : Below W0.heap.size W0 W) => rxCheck_any r' _ _ _ W HG2.out.ok.regS (HRD.out _ hW).reg)
          have HDE := Lib.hid (fun W (hW : Below W0.heap.size W0 W) => rxDebt_any r' _ _ _ W HG2.out.ok.regS (HRD.out _ hW).reg)
          unfold debtR at HDE
          rw [if_pos (checkR_ok HG2.out.ok), ← hdeb] at HDE
          rw [checkR_ok HG2.out.ok] at HCK
          clear hdeb
          have hA := (HRD.out _ HB.out).box
          have g0 := obj_cell hA 0
          have g1 := obj_cell hA 1
          have g2 := obj_cell hA 2
          simp at g0 g1 g2
          clear hA
          go_wp2_with fail
          with_reducible refine Calls.mono (HCK.out _ HB.out) ?_
          rintro e w9 ⟨rfl, hb9⟩
          have HB9 := Lib.hid (HB.out.trans (hb9.mono HB.out.size))
          clear hb9 g0 g1 g2
          have hA := (HRD.out _ HB9.out).box
          have g0 := obj_cell hA 0
          have g1 := obj_cell hA 1
          have g2 := obj_cell hA 2
          simp at g0 g1 g2
          clear hA
          go_wp2_with fail
          with_reducible refine Calls.mono (HDE.out _ HB9.out) ?_
          rintro e w10 ⟨rfl, hb10⟩
          have HB10 := Lib.hid (HRD.out _ (HB9.out.trans (hb10.mono HB9.out.size)))
          clear hb10 g0 g1 g2
          go_wp2
          go_roundw
          case rel => exact ⟨r', d', k + 1, _, _, _, _, _, _, _, _, _, rfl, by first | rfl | go_num, by omega, by omega, by push_cast; omega, HG2, HB10⟩
          case measure => simp [RowKit.intOf]; omega
    · obtain rfl : k = 10 := by omega
      go_wp2_with fail
      refine (HSN.out _).mono ?_
      rintro e w10 ⟨rfl, hb10⟩
      have HE := Lib.hid (HFIN.out _ (HI.out.si.below hb10))
      clear hb10
      go_wp2
      go_ret
      exact ⟨rfl, HE.out⟩

end Go.Proofs.Ytnfllgeneehjjaa
