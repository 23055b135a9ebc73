/- What is done with one security leaves the holdings of the others, and of other holders, as they are: for every tape. -/
import Derived.Test.YtnfllgeneehjjaaMRzV
import Derived.Test.YtnfllgeneehjjaaMRegInv
set_option linter.unusedSimpArgs false
set_option linter.unusedVariables false
set_option linter.unusedSimpArgs false
set_option linter.unusedVariables false
namespace Go.Proofs.Ytnfllgeneehjjaa
open Go.RowKit Go.Lib Go.Proofs

theorem neqSc (x0 x1 x2 x3 x4 x5 : Int) (x6 : Bool) (W : World) : (binOp .neq 34 (.agg #[.int .i64 x0, .int .i64 x1, .int .i64 x2, .int .i64 x3, .int .i64 x4, .int .i64 x5, .bool x6]) (.agg #[.int .i64 x0, .int .i64 x1, .int .i64 x2, .int .i64 x3, .int .i64 x4, .int .i64 x5, .bool x6])).run Try.prog W = .ok (.bool false) W := by
  rw [run_neq_struct]
  simp [go_sem]
theorem neqMv (x0 x1 x2 x3 x4 x5 x6 : Int) (W : World) : (binOp .neq 36 (.agg #[.int .i64 x0, .int .i64 x1, .int .i64 x2, .int .i64 x3, .int .i64 x4, .int .i64 x5, .int .i64 x6]) (.agg #[.int .i64 x0, .int .i64 x1, .int .i64 x2, .int .i64 x3, .int .i64 x4, .int .i64 x5, .int .i64 x6])).run Try.prog W = .ok (.bool false) W := by
  rw [run_neq_struct]
  simp [go_sem]

set_option maxRecDepth 100000 in
set_option maxHeartbeats 8000000 in
theorem rySame_refl (r : Reg) (x y z x' y' z' : Value) (w : World) (hl : r.secs.length ≤ 1000 ∧ r.hs.length ≤ 1000 ∧ r.ms.length ≤ 1000) (hr : RegAt w x y z r) (hr2 : RegAt w x' y' z' r) :
    Calls Try.prog 24 #[.agg #[x, y, z], .agg #[x', y', z']] w fun e w' => e = .returned (.bool true) ∧ Below w.heap.size w w' := by
  obtain ⟨aS, cS, rfl, hcapS, hcsS⟩ := hr.secs.shape secF
  obtain ⟨aM, cM, rfl, hcapM, hcsM⟩ := hr.ms.shape mvF
  obtain ⟨aS', cS', rfl, hcapS', hcsS'⟩ := hr2.secs.shape secF
  obtain ⟨aM', cM', rfl, hcapM', hcsM'⟩ := hr2.ms.shape mvF
  have HCS := Lib.hid hcsS
  have HCM := Lib.hid hcsM
  have HCS' := Lib.hid hcsS'
  have HCM' := Lib.hid hcsM'
  have HEQ := Lib.hid (fun W (hW : Below w.heap.size w W) => eqRyH_any y y' r.hs r.hs W (hr.hs.below hW) (hr2.hs.below hW) (by omega) (by omega))
  rw [decide_eq_true rfl] at HEQ
  obtain ⟨hl1, hl2, hl3⟩ := hl
  obtain ⟨nS, hnS⟩ : ∃ n, n = r.secs.length := ⟨_, rfl⟩
  obtain ⟨nM, hnM⟩ : ∃ n, n = r.ms.length := ⟨_, rfl⟩
  have HNS := Lib.hid hnS
  have HNM := Lib.hid hnM
  rw [← hnS] at hl1 hcapS hcapS' ⊢
  rw [← hnM] at hl3 hcapM hcapM' ⊢
  obtain ⟨W1, hW1⟩ : ∃ W1, W1 = (w.alloc (.cells #[.slice aS nS cS, y, .slice aM nM cM] 29)).alloc (.cells #[.slice aS' nS cS', y', .slice aM' nM cM'] 29) := ⟨_, rfl⟩
  have HB1 : Hid (Below w.heap.size w W1) := Lib.hid (by rw [hW1]; exact below2 w _ _)
  have HA1 : Hid (W1.heap[w.heap.size]? = some (.cells #[.slice aS nS cS, y, .slice aM nM cM] 29 (0, 0))) := Lib.hid (by rw [hW1]; exact alloc1_at w _ _)
  have HA2 : Hid (W1.heap[w.heap.size + 1]? = some (.cells #[.slice aS' nS cS', y', .slice aM' nM cM'] 29 (0, 0))) := Lib.hid (by rw [hW1]; exact alloc2_at w _ _)
  clear hr hr2 hcsS hcsM hcsS' hcsM' hnS hnM hl2
  have hA1 := HA1.out
  have hA2 := HA2.out
  have a0 := obj_cell hA1 0
  have a1 := obj_cell hA1 1
  have a2 := obj_cell hA1 2
  simp at a0 a1 a2
  have b0 := obj_cell hA2 0
  have b1 := obj_cell hA2 1
  have b2 := obj_cell hA2 2
  simp at b0 b1 b2
  clear hA1 hA2
  go_enter Try.func24, Try.ntmps24
  go_upto_region 1 with fail
  rw [← hW1]
  clear hW1
  go_wp2_with fail
  with_reducible refine Calls.mono (HEQ.out _ HB1.out) ?_
  rintro e w2 ⟨rfl, hb2⟩
  have HB2 := Lib.hid (HB1.out.trans (hb2.mono HB1.out.size))
  have HA1 := Lib.hid (obj_below HA1.out hb2)
  have HA2 := Lib.hid (obj_below HA2.out hb2)
  have HA1K : Hid (∀ W, Below w2.heap.size w2 W → W.heap[w.heap.size]? = some (.cells #[.slice aS nS cS, y, .slice aM nM cM] 29 (0, 0))) := Lib.hid fun W hW => obj_below HA1.out hW
  have HA2K : Hid (∀ W, Below w2.heap.size w2 W → W.heap[w.heap.size + 1]? = some (.cells #[.slice aS' nS cS', y', .slice aM' nM cM'] 29 (0, 0))) := Lib.hid fun W hW => obj_below HA2.out hW
  have HBK : Hid (∀ W, Below w2.heap.size w2 W → Below w.heap.size w W) := Lib.hid fun W hW => HB2.out.trans (hW.mono HB2.out.size)
  clear hb2 a0 a1 a2 b0 b1 b2 HEQ
  have hA1 := HA1.out
  have hA2 := HA2.out
  have a0 := obj_cell hA1 0
  have a1 := obj_cell hA1 1
  have a2 := obj_cell hA1 2
  simp at a0 a1 a2
  have b0 := obj_cell hA2 0
  have b1 := obj_cell hA2 1
  have b2 := obj_cell hA2 2
  simp at b0 b1 b2
  clear hA1 hA2
  go_wp2
  clear a0 a1 a2 b0 b1 b2
  go_loopw [34] (fun i wr => ∃ k : Nat, i = .int .i64 k ∧ k ≤ nS ∧ Hid (Below w2.heap.size w2 wr)) (fun i _ => nS - (RowKit.intOf i).toNat)
  case atStart => exact ⟨0, rfl, by omega, Lib.hid (Below.refl _ _)⟩
  case round =>
    obtain ⟨k, rfl, hkn, HB⟩ := hrel
    have hA1 := HA1K.out _ HB.out
    have hA2 := HA2K.out _ HB.out
    have a0 := obj_cell hA1 0
    have a1 := obj_cell hA1 1
    have a2 := obj_cell hA1 2
    simp at a0 a1 a2
    have b0 := obj_cell hA2 0
    have b1 := obj_cell hA2 1
    have b2 := obj_cell hA2 2
    simp at b0 b1 b2
    clear hA1 hA2
    by_cases hlt : k < nS
    · have hkl : k < r.secs.length := by rw [← HNS.out]; exact hlt
      obtain ⟨b, o, hbo, hb, hcc⟩ := HCS.out (by omega)
      obtain ⟨b', o', hbo', hb', hcc'⟩ := HCS'.out (by omega)
      subst hbo hbo'
      have HBW := Lib.hid (HBK.out _ HB.out)
      have hcell := fun j (hj : j < 7) => (HBW.out.cell (p := ⟨b, o + k * 7 + j, none⟩) hb).trans (hcc k hkl j hj)
      have dcell := fun j (hj : j < 7) => (HBW.out.cell (p := ⟨b', o' + k * 7 + j, none⟩) hb').trans (hcc' k hkl j hj)
      have hk0 : (0 : Int) ≤ (k : Int) := by omega
      have hk1 : (k : Int) < (nS : Int) := by omega
      generalize r.secs[k] = x at *
      obtain ⟨x0, x1, x2, x3, x4, x5, x6⟩ := x
      have c0 : wr.cell? ⟨b, o + k * 7, none⟩ = some (.int .i64 x0) := hcell 0 (by omega)
      have d0 : wr.cell? ⟨b', o' + k * 7, none⟩ = some (.int .i64 x0) := dcell 0 (by omega)
      have c1 : wr.cell? ⟨b, o + k * 7 + 1, none⟩ = some (.int .i64 x1) := hcell 1 (by omega)
      have d1 : wr.cell? ⟨b', o' + k * 7 + 1, none⟩ = some (.int .i64 x1) := dcell 1 (by omega)
      have c2 : wr.cell? ⟨b, o + k * 7 + 2, none⟩ = some (.int .i64 x2) := hcell 2 (by omega)
      have d2 : wr.cell? ⟨b', o' + k * 7 + 2, none⟩ = some (.int .i64 x2) := dcell 2 (by omega)
      have c3 : wr.cell? ⟨b, o + k * 7 + 3, none⟩ = some (.int .i64 x3) := hcell 3 (by omega)
      have d3 : wr.cell? ⟨b', o' + k * 7 + 3, none⟩ = some (.int .i64 x3) := dcell 3 (by omega)
      have c4 : wr.cell? ⟨b, o + k * 7 + 4, none⟩ = some (.int .i64 x4) := hcell 4 (by omega)
      have d4 : wr.cell? ⟨b', o' + k * 7 + 4, none⟩ = some (.int .i64 x4) := dcell 4 (by omega)
      have c5 : wr.cell? ⟨b, o + k * 7 + 5, none⟩ = some (.int .i64 x5) := hcell 5 (by omega)
      have d5 : wr.cell? ⟨b', o' + k * 7 + 5, none⟩ = some (.int .i64 x5) := dcell 5 (by omega)
      have c6 : wr.cell? ⟨b, o + k * 7 + 6, none⟩ = some (.bool x6) := hcell 6 (by omega)
      have d6 : wr.cell? ⟨b', o' + k * 7 + 6, none⟩ = some (.bool x6) := dcell 6 (by omega)
      have hne := fun W => neqSc x0 x1 x2 x3 x4 x5 x6 W
      clear hcell dcell hcc hcc'
      go_wp2
      go_quiet (fail)
      go_wp2
      go_roundw
      case rel => exact ⟨k + 1, by first | rfl | go_num, by omega, Lib.hid (below_drewN HB.out _)⟩
      case measure => simp [RowKit.intOf]; omega
    · obtain rfl : k = nS := by omega
      go_wp2
      clear a0 a1 a2 b0 b1 b2
      go_loopw [52] (fun i wr => ∃ k : Nat, i = .int .i64 k ∧ k ≤ nM ∧ Hid (Below w2.heap.size w2 wr)) (fun i _ => nM - (RowKit.intOf i).toNat)
      case atStart => exact ⟨0, rfl, by omega, HB⟩
      case round =>
        clear HB
        obtain ⟨j, rfl, hkn, HB⟩ := hrel
        have hA1 := HA1K.out _ HB.out
        have hA2 := HA2K.out _ HB.out
        have a0 := obj_cell hA1 0
        have a1 := obj_cell hA1 1
        have a2 := obj_cell hA1 2
        simp at a0 a1 a2
        have b0 := obj_cell hA2 0
        have b1 := obj_cell hA2 1
        have b2 := obj_cell hA2 2
        simp at b0 b1 b2
        clear hA1 hA2
        by_cases hlt : j < nM
        · have hkl : j < r.ms.length := by rw [← HNM.out]; exact hlt
          obtain ⟨b, o, hbo, hb, hcc⟩ := HCM.out (by omega)
          obtain ⟨b', o', hbo', hb', hcc'⟩ := HCM'.out (by omega)
          subst hbo hbo'
          have HBW := Lib.hid (HBK.out _ HB.out)
          have hcell := fun i (hj : i < 7) => (HBW.out.cell (p := ⟨b, o + j * 7 + i, none⟩) hb).trans (hcc j hkl i hj)
          have dcell := fun i (hj : i < 7) => (HBW.out.cell (p := ⟨b', o' + j * 7 + i, none⟩) hb').trans (hcc' j hkl i hj)
          have hk0 : (0 : Int) ≤ (j : Int) := by omega
          have hk1 : (j : Int) < (nM : Int) := by omega
          generalize r.ms[j] = x at *
          obtain ⟨x0, x1, x2, x3, x4, x5, x6⟩ := x
          have c0 : wr.cell? ⟨b, o + j * 7, none⟩ = some (.int .i64 x0) := hcell 0 (by omega)
          have d0 : wr.cell? ⟨b', o' + j * 7, none⟩ = some (.int .i64 x0) := dcell 0 (by omega)
          have c1 : wr.cell? ⟨b, o + j * 7 + 1, none⟩ = some (.int .i64 x1) := hcell 1 (by omega)
          have d1 : wr.cell? ⟨b', o' + j * 7 + 1, none⟩ = some (.int .i64 x1) := dcell 1 (by omega)
          have c2 : wr.cell? ⟨b, o + j * 7 + 2, none⟩ = some (.int .i64 x2) := hcell 2 (by omega)
          have d2 : wr.cell? ⟨b', o' + j * 7 + 2, none⟩ = some (.int .i64 x2) := dcell 2 (by omega)
          have c3 : wr.cell? ⟨b, o + j * 7 + 3, none⟩ = some (.int .i64 x3) := hcell 3 (by omega)
          have d3 : wr.cell? ⟨b', o' + j * 7 + 3, none⟩ = some (.int .i64 x3) := dcell 3 (by omega)
          have c4 : wr.cell? ⟨b, o + j * 7 + 4, none⟩ = some (.int .i64 x4) := hcell 4 (by omega)
          have d4 : wr.cell? ⟨b', o' + j * 7 + 4, none⟩ = some (.int .i64 x4) := dcell 4 (by omega)
          have c5 : wr.cell? ⟨b, o + j * 7 + 5, none⟩ = some (.int .i64 x5) := hcell 5 (by omega)
          have d5 : wr.cell? ⟨b', o' + j * 7 + 5, none⟩ = some (.int .i64 x5) := dcell 5 (by omega)
          have c6 : wr.cell? ⟨b, o + j * 7 + 6, none⟩ = some (.int .i64 x6) := hcell 6 (by omega)
          have d6 : wr.cell? ⟨b', o' + j * 7 + 6, none⟩ = some (.int .i64 x6) := dcell 6 (by omega)
          have hne := fun W => neqMv x0 x1 x2 x3 x4 x5 x6 W
          clear hcell dcell hcc hcc'
          go_wp2
          go_quiet (fail)
          go_wp2
          go_roundw
          case rel => exact ⟨j + 1, by first | rfl | go_num, by omega, Lib.hid (below_drewN HB.out _)⟩
          case measure => simp [RowKit.intOf]; omega
        · obtain rfl : j = nM := by omega
          have HE := Lib.hid (HBK.out _ HB.out)
          go_wp2
          go_ret
          exact ⟨rfl, HE.out⟩

/-- What a move changes for a holder of a security: nothing, or just its amount. -/
theorem eff_touch {secs : List Sec} {l : List Hld} {bd : Int} {m : Mv} {s : Sec} (hm : MvOk secs l bd m s) (i h : Int) (h1 : 1 ≤ h) :
    ((m.sec = i ∧ (h = m.frm ∨ h = m.to)) → (effM m i h = m.amt ∨ effM m i h = -m.amt)) ∧ (¬ (m.sec = i ∧ (h = m.frm ∨ h = m.to)) → effM m i h = 0) := by
  unfold effM
  have hk := hm.kind
  by_cases k1 : m.kind = 1
  · have k3 : ¬ m.kind = 3 := by omega
    have := hm.frm0 k1
    rw [if_neg (fun q => q.1 k1)]
    refine ⟨fun ⟨q1, q2⟩ => ?_, fun q => ?_⟩
    · have q3 : m.to = h := by omega
      rw [if_pos ⟨k3, q1, q3⟩]; omega
    · rw [if_neg (fun q2 => q ⟨q2.2.1, Or.inr q2.2.2.symm⟩)]; omega
  · by_cases k3 : m.kind = 3
    · have := hm.to0 k3
      rw [if_neg (c := m.kind ≠ 3 ∧ m.sec = i ∧ m.to = h) (fun q => q.1 k3)]
      refine ⟨fun ⟨q1, q2⟩ => ?_, fun q => ?_⟩
      · have q3 : m.frm = h := by omega
        rw [if_pos ⟨k1, q1, q3⟩]; omega
      · rw [if_neg (fun q2 => q ⟨q2.2.1, Or.inl q2.2.2.symm⟩)]; omega
    · have hne := hm.ne (by omega)
      refine ⟨fun ⟨q1, q2⟩ => ?_, fun q => ?_⟩
      · rcases q2 with q2 | q2
        · rw [if_pos ⟨k1, q1, q2.symm⟩, if_neg (fun q => hne (q2.symm.trans q.2.2.symm))]; omega
        · rw [if_neg (fun q => hne (q.2.2.trans q2)), if_pos ⟨k3, q1, q2.symm⟩]; omega
      · rw [if_neg (fun q2 => q ⟨q2.2.1, Or.inl q2.2.2.symm⟩), if_neg (fun q2 => q ⟨q2.2.1, Or.inr q2.2.2.symm⟩)]; rfl

set_option maxRecDepth 100000 in
set_option maxHeartbeats 16000000 in
theorem rhothers_any (v : Value) (n : Nat) (w : World) (hi : IntsAt w v n w.heap.size) (hn : n ≤ 9223372036854775807) :
    Calls Try.prog 6 #[v] w fun e w' => e = .returned (.bool true) ∧ Below w.heap.size w w' := by
  have HNEW := Lib.hid (sNew_any v n w hi hn)
  have HSN := Lib.hid sane33_true
  clear hi hn
  go_enter Try.func6, Try.ntmps6
  go_wp2_with fail
  refine (HNEW.out).mono ?_
  rintro e w1 ⟨rfl, t1, b1⟩
  obtain ⟨tb, htb⟩ : ∃ tb, tb = w.heap.size := ⟨_, rfl⟩
  rw [← htb] at t1 ⊢
  have HRG := Lib.hid (sRegister_any tb 8 w1 t1 (by omega))
  have HFIN : Hid (∀ W, SI w1 tb W → Below w.heap.size w W) := Lib.hid fun W hW => b1.grown hW.old b1.size (fun q e => by injection e with e; omega)
  clear t1 b1 HNEW htb
  go_wp2_with fail
  with_reducible refine Calls.mono HRG.out ?_
  rintro e w2 ⟨x, y, z, r, d, rfl, hG, hs0, hs1, hml, hd, hra, hsi⟩
  obtain ⟨a0, n0, j0, b0, m0, j1, e0, k0, j2, rfl, rfl, rfl⟩ := hra.slices
  obtain ⟨bR, hbR⟩ : ∃ b, b = w2.heap.size := ⟨_, rfl⟩
  obtain ⟨w3, hw3⟩ : ∃ W, W = w2.alloc (.cells #[.slice a0 n0 j0, .slice b0 m0 j1, .slice e0 k0 j2] 29) := ⟨_, rfl⟩
  have HI3 : Hid (RgI w1 tb bR (.slice a0 n0 j0) (.slice b0 m0 j1) (.slice e0 k0 j2) r w3) := Lib.hid (by
    rw [hw3, hbR]
    have hlt := hsi.lt
    have hsz := hsi.old.size
    exact ⟨hsi.alloc _, heap_alloc_new _ _, hra.below (below_alloc _ _), by omega, hsz⟩)
  have HG := Lib.hid hG
  have HML : Hid (r.ms.length < 100) := Lib.hid (by omega)
  clear hG hra hsi hml HRG
  go_upto_region 3 with fail
  rw [← hw3, ← hbR]
  clear hw3 hbR
  have hA := HI3.out.box
  have r0 := obj_cell hA 0
  have r1 := obj_cell hA 1
  have r2' := obj_cell hA 2
  simp at r0 r1 r2'
  clear hA
  go_wp2_with fail
  with_reducible refine Calls.mono (sDeal_ok tb r _ _ _ d _ HI3.out.si.src HG.out.ok HI3.out.reg ⟨hd.1, by omega⟩) ?_
  rintro e w4 ⟨x', y', z', r', d', rfl, hdl, hrr, hi4⟩
  obtain ⟨p0, q0, l0, p1, q1, l1, p2, q2, l2, rfl, rfl, rfl⟩ := hrr.slices
  have HI4 := Lib.hid (HI3.out.turn hi4.src hi4.old)
  have HR4 := Lib.hid hrr
  clear hrr hi4 r0 r1 r2' HI3 hd
  obtain ⟨bX, hbX⟩ : ∃ b, b = w4.heap.size := ⟨_, rfl⟩
  obtain ⟨w5, hw5⟩ : ∃ W, W = w4.alloc (.cells #[.slice p0 q0 l0, .slice p1 q1 l1, .slice p2 q2 l2] 29) := ⟨_, rfl⟩
  have HI5 : Hid (RgI w1 tb bR (.slice a0 n0 j0) (.slice b0 m0 j1) (.slice e0 k0 j2) r w5) := Lib.hid (by rw [hw5]; exact HI4.out.below (below_alloc _ _))
  have HR5 : Hid (RegAt w5 (.slice p0 q0 l0) (.slice p1 q1 l1) (.slice p2 q2 l2) r') := Lib.hid (by rw [hw5]; exact HR4.out.below (below_alloc _ _))
  have HX5 : Hid (w5.heap[bX]? = some (.cells #[.slice p0 q0 l0, .slice p1 q1 l1, .slice p2 q2 l2] 29 (0, 0))) := Lib.hid (by rw [hw5, hbX]; exact heap_alloc_new _ _)
  have hA := HI5.out.box
  have hX := HX5.out
  have r0 := obj_cell hA 0
  have r1 := obj_cell hA 1
  have r2' := obj_cell hA 2
  simp at r0 r1 r2'
  have x0 := obj_cell hX 0
  have x1 := obj_cell hX 1
  have x2 := obj_cell hX 2
  simp at x0 x1 x2
  clear hX hA HI4 HR4
  go_upto_region 4 with fail
  rw [← hw5, ← hbX]
  clear hw5 hbX
  obtain ⟨aM, cM, hze, -, -⟩ := HI5.out.reg.ms.shape mvF
  obtain ⟨aM', cM', hze', hcapM', hcsM'⟩ := HR5.out.ms.shape mvF
  injection hze with hz1 hz2 hz3
  injection hze' with hz1' hz2' hz3'
  cases hdl with
  | none =>
    have hqq : ((q2 : Int) == (k0 : Int)) = true := by rw [hz2, hz2']; simp
    have hlb : r.secs.length ≤ 1000 ∧ r.hs.length ≤ 1000 ∧ r.ms.length ≤ 1000 := ⟨by have := HG.out.ok.secs.len; omega, by have := HG.out.ok.hsLen; omega, by have := HG.out.ok.len; omega⟩
    clear hz1 hz2 hz3 hz1' hz2' hz3' hcsM'
    go_wp2_with fail
    with_reducible refine Calls.mono (rySame_refl r _ _ _ _ _ _ _ hlb HR5.out HI5.out.reg) ?_
    rintro e w6 ⟨rfl, hb6⟩
    have HS6 := Lib.hid (HI5.out.si.below hb6)
    clear hb6
    go_wp2_with fail
    refine (HSN.out _).mono ?_
    rintro e w10 ⟨rfl, hb10⟩
    have HE := Lib.hid (HFIN.out _ (HS6.out.below hb10))
    clear hb10
    go_wp2
    go_ret
    exact ⟨rfl, HE.out⟩
  | move m _ hk hdd hd0 hd1 he =>
    have hl1 : (addM r (numM r m)).ms.length = r.ms.length + 1 := by simp [addM]
    have hqq : ((q2 : Int) == (k0 : Int)) = false := by rw [beq_eq_false_iff_ne, hz2, hz2', hl1]; omega
    have hq2 : q2 = r.ms.length + 1 := by rw [hz2', hl1]
    have hqb : q2 ≤ 1000 := by have := HML.out; omega
    have hok := add_ok HG.out.ok he
    have HOK := Lib.hid hok
    have hf := addE_ok HG.out.ok m
    rw [he, if_neg (by have := HML.out; omega)] at hf
    obtain ⟨s, hm⟩ := fault_zero (fun s hs => (HG.out.ok.secs.bound s hs).2.2) hf.symm
    have HEF : Hid (∀ i h, 1 ≤ h → heldM (addM r (numM r m)).hs i h = heldM r.hs i h + effM (numM r m) i h ∧ (((numM r m).sec = i ∧ (h = (numM r m).frm ∨ h = (numM r m).to)) → (effM (numM r m) i h = (numM r m).amt ∨ effM (numM r m) i h = -(numM r m).amt)) ∧ (¬ ((numM r m).sec = i ∧ (h = (numM r m).frm ∨ h = (numM r m).to)) → effM (numM r m) i h = 0)) := Lib.hid fun i h h1 => by
      have h2 := eff_touch hm i h h1
      rw [show (addM r (numM r m)).hs = carryM r.hs (numM r m) from rfl, heldM_carry]
      exact ⟨rfl, h2.1, h2.2⟩
    have hamt := hm.amt
    obtain ⟨b, o, hbo, hb, hcc⟩ := hcsM' (by rw [hl1]; omega)
    have hlast : (addM r (numM r m)).ms[r.ms.length]'(by rw [hl1]; omega) = numM r m := by simp [addM]
    have hcell : ∀ j, j < 7 → w5.cell? ⟨b, o + r.ms.length * 7 + j, none⟩ = (mvC (numM r m))[j]? := fun j hj => by
      have := hcc r.ms.length (by rw [hl1]; omega) j hj
      rw [hlast] at this
      exact this
    clear hlast
    rw [hbo] at hz1'
    subst hz1'
    obtain ⟨L, hL⟩ : ∃ L, L = r.ms.length := ⟨_, rfl⟩
    rw [← hL] at hcell hq2
    clear hcc hbo hcsM' hm hf hz1 hz2 hz3 hz2' hz3' hL hl1 hok
    generalize hg : addM r (numM r m) = r2 at *
    clear hg
    generalize numM r m = mm at *
    obtain ⟨g0, g1, g2, g3, g4, g5, g6⟩ := mm
    simp only at HEF hamt
    have c0 : w5.cell? ⟨b, o + L * 7, none⟩ = some (.int .i64 g0) := hcell 0 (by omega)
    have c1 : w5.cell? ⟨b, o + L * 7 + 1, none⟩ = some (.int .i64 g1) := hcell 1 (by omega)
    have c2 : w5.cell? ⟨b, o + L * 7 + 2, none⟩ = some (.int .i64 g2) := hcell 2 (by omega)
    have c3 : w5.cell? ⟨b, o + L * 7 + 3, none⟩ = some (.int .i64 g3) := hcell 3 (by omega)
    have c4 : w5.cell? ⟨b, o + L * 7 + 4, none⟩ = some (.int .i64 g4) := hcell 4 (by omega)
    have c5 : w5.cell? ⟨b, o + L * 7 + 5, none⟩ = some (.int .i64 g5) := hcell 5 (by omega)
    have c6 : w5.cell? ⟨b, o + L * 7 + 6, none⟩ = some (.int .i64 g6) := hcell 6 (by omega)
    have hw1 : IntKind.i64.wrap ((q2 : Int) - 1) = (L : Int) := by rw [IntKind.wrap_i64]; omega
    have hL0 : (0 : Int) ≤ (L : Int) := by omega
    have hL1 : (L : Int) < (q2 : Int) := by omega
    obtain ⟨bM, hbM⟩ : ∃ b, b = w5.heap.size := ⟨_, rfl⟩
    obtain ⟨w6, hw6⟩ : ∃ W, W = w5.alloc (.cells #[.int .i64 g0, .int .i64 g1, .int .i64 g2, .int .i64 g3, .int .i64 g4, .int .i64 g5, .int .i64 g6] 36) := ⟨_, rfl⟩
    have HI6 : Hid (RgI w1 tb bR (.slice a0 n0 j0) (.slice b0 m0 j1) (.slice e0 k0 j2) r w6) := Lib.hid (by rw [hw6]; exact HI5.out.below (below_alloc _ _))
    have HR6 : Hid (RegAt w6 (.slice p0 q0 l0) (.slice p1 q1 l1) (.slice (some ⟨b, o, none⟩) q2 l2) r2) := Lib.hid (by rw [hw6]; exact HR5.out.below (below_alloc _ _))
    have HX6 : Hid (w6.heap[bX]? = some (.cells #[.slice p0 q0 l0, .slice p1 q1 l1, .slice (some ⟨b, o, none⟩) q2 l2] 29 (0, 0))) := Lib.hid (by rw [hw6]; exact obj_below HX5.out (below_alloc _ _))
    have HM6 : Hid (w6.heap[bM]? = some (.cells #[.int .i64 g0, .int .i64 g1, .int .i64 g2, .int .i64 g3, .int .i64 g4, .int .i64 g5, .int .i64 g6] 36 (0, 0))) := Lib.hid (by rw [hw6, hbM]; exact heap_alloc_new _ _)
    clear hcell
    go_upto_region 7 with fail
    rw [← hw6, ← hbM]
    clear hw6 hbM c0 c1 c2 c3 c4 c5 c6 r0 r1 r2' x0 x1 x2 HI5 HR5 HX5
    have HSI := Lib.hid HI6.out.si
    have HCR0 : Hid (∀ W, Below w6.heap.size w6 W → W.heap[bR]? = some (.cells #[.slice a0 n0 j0, .slice b0 m0 j1, .slice e0 k0 j2] 29 (0, 0))) := Lib.hid fun W hW => obj_below HI6.out.box hW
    have HCX0 : Hid (∀ W, Below w6.heap.size w6 W → W.heap[bX]? = some (.cells #[.slice p0 q0 l0, .slice p1 q1 l1, .slice (some ⟨b, o, none⟩) q2 l2] 29 (0, 0))) := Lib.hid fun W hW => obj_below HX6.out hW
    have HCM0 : Hid (∀ W, Below w6.heap.size w6 W → W.heap[bM]? = some (.cells #[.int .i64 g0, .int .i64 g1, .int .i64 g2, .int .i64 g3, .int .i64 g4, .int .i64 g5, .int .i64 g6] 36 (0, 0))) := Lib.hid fun W hW => obj_below HM6.out hW
    have HHR0 : Hid (∀ i h W, Below w6.heap.size w6 W → Calls Try.prog 22 #[.agg #[.slice a0 n0 j0, .slice b0 m0 j1, .slice e0 k0 j2], .int .i64 i, .int .i64 h] W fun e w' => e = .returned (.int .i64 (heldM r.hs i h)) ∧ Below W.heap.size W w') := Lib.hid fun i h W hW => by
      refine (rxHeld_any r _ _ _ i h W HG.out.ok.regS (HI6.out.reg.below hW)).mono ?_
      rintro e w' ⟨rfl, hb'⟩
      exact ⟨by unfold heldR; rw [if_pos (checkR_ok HG.out.ok)], hb'⟩
    have HHX0 : Hid (∀ i h W, Below w6.heap.size w6 W → Calls Try.prog 22 #[.agg #[.slice p0 q0 l0, .slice p1 q1 l1, .slice (some ⟨b, o, none⟩) q2 l2], .int .i64 i, .int .i64 h] W fun e w' => e = .returned (.int .i64 (heldM r2.hs i h)) ∧ Below W.heap.size W w') := Lib.hid fun i h W hW => by
      refine (rxHeld_any r2 _ _ _ i h W HOK.out.regS (HR6.out.below hW)).mono ?_
      rintro e w' ⟨rfl, hb'⟩
      exact ⟨by unfold heldR; rw [if_pos (checkR_ok HOK.out)], hb'⟩
    have HCK0 : Hid (∀ W, Below w6.heap.size w6 W → Calls Try.prog 15 #[.agg #[.slice p0 q0 l0, .slice p1 q1 l1, .slice (some ⟨b, o, none⟩) q2 l2]] W fun e w' => e = .returned (.int .i64 0) ∧ Below W.heap.size W w') := Lib.hid fun W hW => by
      have := rxCheck_any r2 _ _ _ W HOK.out.regS (HR6.out.below hW)
      rwa [checkR_ok HOK.out] at this
    have HHB : Hid (∀ i h, 0 ≤ heldM r.hs i h ∧ heldM r.hs i h ≤ 1000000000000000) := Lib.hid fun i h => by
      have := sumH_bound (p := isAt i h) HG.out.ok.runM.inv.ok.ok; have := HG.out.ok.hsLen; unfold heldM; omega
    clear HOK hqb hq2 hw1 hL0 hL1 hqq
    go_wp2
    go_loopw [9] (fun iv wr => ∃ id : Int, iv = .int .i64 id ∧ 1 ≤ id ∧ id ≤ 4 ∧ Hid (Below w6.heap.size w6 wr)) (fun iv _ => 4 - (RowKit.intOf iv).toNat)
    case atStart => exact ⟨1, rfl, by omega, by omega, Lib.hid (Below.refl _ _)⟩
    case round =>
      obtain ⟨id, rfl, hid0, hid1, HB⟩ := hrel
      by_cases hle : id ≤ 3
      · go_wp2
        go_loopw [10] (fun hv wr => ∃ h : Int, hv = .int .i64 h ∧ 1 ≤ h ∧ h ≤ 5 ∧ Hid (Below w6.heap.size w6 wr)) (fun hv _ => 5 - (RowKit.intOf hv).toNat)
        case atStart => exact ⟨1, rfl, by omega, by omega, HB⟩
        case round =>
          clear HB
          obtain ⟨h, rfl, hh0, hh1, HB⟩ := hrel
          by_cases hlh : h ≤ 4
          · go_upto_region 13 with fail
            obtain ⟨hef, htc, hnt⟩ := HEF.out id h hh0
            have hhb := HHB.out id h
            have HHR1 := Lib.hid (HHR0.out id h)
            have HHX1 := Lib.hid (HHX0.out id h)
            obtain ⟨nw, hnw⟩ : ∃ nw, nw = heldM r2.hs id h := ⟨_, rfl⟩
            obtain ⟨od, hod⟩ : ∃ od, od = heldM r.hs id h := ⟨_, rfl⟩
            rw [← hod] at hhb HHR1 hef
            rw [← hnw] at HHX1 hef
            generalize effM ⟨g0, g1, g2, g3, g4, g5, g6⟩ id h = ef at *
            have HRL : Hid (((g3 = id ∧ (h = g4 ∨ h = g5)) → (nw - od = g6 ∨ od - nw = g6)) ∧ (¬ (g3 = id ∧ (h = g4 ∨ h = g5)) → nw = od)) := Lib.hid ⟨fun q => by have := htc q; omega, fun q => by have := hnt q; omega⟩
            have hbn : -1000000000000000 ≤ nw ∧ nw ≤ 2000000000000000 := by
              by_cases q : g3 = id ∧ (h = g4 ∨ h = g5)
              · have := htc q; omega
              · have := hnt q; omega
            obtain ⟨J, hJ⟩ : ∃ J, J = fun W : World => Below w6.heap.size w6 W := ⟨_, rfl⟩
            have HJO : Hid (∀ W, J W → Below w6.heap.size w6 W) := Lib.hid fun W hW => by rw [hJ] at hW; exact hW
            have HJI : Hid (∀ W, Below w6.heap.size w6 W → J W) := Lib.hid fun W hW => by rw [hJ]; exact hW
            have HJD : Hid (∀ W, J W → J W.drew) := Lib.hid fun W hW => HJI.out _ ((HJO.out W hW).drew)
            have HJ0 : Hid (J wr) := Lib.hid (HJI.out _ HB.out)
            have HCR : Hid (∀ W, J W → ∀ j, W.cell? ⟨bR, j, none⟩ = #[.slice a0 n0 j0, .slice b0 m0 j1, .slice e0 k0 j2][j]?) := Lib.hid fun W hW j => obj_cell (HCR0.out W (HJO.out W hW)) j
            have HCX : Hid (∀ W, J W → ∀ j, W.cell? ⟨bX, j, none⟩ = #[.slice p0 q0 l0, .slice p1 q1 l1, .slice (some ⟨b, o, none⟩) q2 l2][j]?) := Lib.hid fun W hW j => obj_cell (HCX0.out W (HJO.out W hW)) j
            have HHR : Hid (∀ W, J W → Calls Try.prog 22 #[.agg #[.slice a0 n0 j0, .slice b0 m0 j1, .slice e0 k0 j2], .int .i64 id, .int .i64 h] W fun e w' => e = .returned (.int .i64 od) ∧ J w') := Lib.hid fun W hW => (HHR1.out W (HJO.out W hW)).mono fun e w' ⟨h1, h2⟩ => ⟨h1, HJI.out _ ((HJO.out W hW).trans (h2.mono (HJO.out W hW).size))⟩
            have HHX : Hid (∀ W, J W → Calls Try.prog 22 #[.agg #[.slice p0 q0 l0, .slice p1 q1 l1, .slice (some ⟨b, o, none⟩) q2 l2], .int .i64 id, .int .i64 h] W fun e w' => e = .returned (.int .i64 nw) ∧ J w') := Lib.hid fun W hW => (HHX1.out W (HJO.out W hW)).mono fun e w' ⟨h1, h2⟩ => ⟨h1, HJI.out _ ((HJO.out W hW).trans (h2.mono (HJO.out W hW).size))⟩
            have egH := enters_of Try.func22 (by kernel_rfl) rfl
            clear hJ hnw hod hef htc hnt HHR1 HHX1
            go_cut [11, 12] (fun nv ov wx => nv = .int .i64 nw ∧ ov = .int .i64 od ∧ Hid (J wx))
            case first =>
              refine wp_region_props [57, 58, 59, 60, 61, 62, 63, 64, 11, 12] (slotS [57, 58, 59, 60, 61, 62, 63, 64, 11, 12]) (readsS [57, 58, 59, 60, 61, 62, 63, 64, 11, 12]) (RTs [57, 58, 59, 60, 61, 62, 63, 64, 11, 12] [.agg #[.slice p0 q0 l0, .slice p1 q1 l1, .slice (some ⟨b, o, none⟩) q2 l2], .int .i64 id, .int .i64 h, .int .i64 nw, .agg #[.slice a0 n0 j0, .slice b0 m0 j1, .slice e0 k0 j2], .int .i64 id, .int .i64 h, .int .i64 od, .int .i64 nw, .int .i64 od]) J (by kernel_rfl) (by kernel_rfl) (by kernel_rfl) (HJD.out _ HJ0.out) (fun j f q v W hq h => RTs.upd hq h) ?_ ?_
              case refine_1 =>
                intro iq hiq f W hIW hdep
                have hiq' : iq < 10 := hiq
                generalize ha1 : putsL _ [57, 58, 59, 60, 61, 62, 63, 64, 11, 12] f = a1
                match iq, hiq', hdep with
                | 0, _, hdep =>
                  have E6 : a1.tmps[6]?.getD undef = .pointer (some ⟨bX, 0, none⟩) := by rw [← ha1]; exact (putsL_out2 _ _ _ _ (by decide)).trans rfl
                  have v0 : W.cell? ⟨bX, 0, none⟩ = some (.slice p0 q0 l0) := by simpa using HCX.out W hIW 0
                  have v1 : W.cell? ⟨bX, 1, none⟩ = some (.slice p1 q1 l1) := by simpa using HCX.out W hIW 1
                  have v2 : W.cell? ⟨bX, 2, none⟩ = some (.slice (some ⟨b, o, none⟩) q2 l2) := by simpa using HCX.out W hIW 2
                  exact wpOp_val rfl rfl (v := .agg #[.slice p0 q0 l0, .slice p1 q1 l1, .slice (some ⟨b, o, none⟩) q2 l2]) (w' := W) (by simp [execOp, go_sem, E6, v0, v1, v2]) ⟨hIW, fun _ h => h, Or.inl ⟨_, by decide, rfl, updF_same _ _ _⟩⟩
                | 1, _, hdep =>
                  have E9 : a1.tmps[9]?.getD undef = .int .i64 id := by rw [← ha1]; exact (putsL_out2 _ _ _ _ (by decide)).trans rfl
                  exact wpOp_val rfl rfl (v := .int .i64 id) (w' := W) (by simp [execOp, go_sem, E9]) ⟨hIW, fun _ h => h, Or.inl ⟨_, by decide, rfl, updF_same _ _ _⟩⟩
                | 2, _, hdep =>
                  have E10 : a1.tmps[10]?.getD undef = .int .i64 h := by rw [← ha1]; exact (putsL_out2 _ _ _ _ (by decide)).trans rfl
                  exact wpOp_val rfl rfl (v := .int .i64 h) (w' := W) (by simp [execOp, go_sem, E10]) ⟨hIW, fun _ h => h, Or.inl ⟨_, by decide, rfl, updF_same _ _ _⟩⟩
                | 3, _, hdep =>
                  have E57 : a1.tmps[57]?.getD undef = .agg #[.slice p0 q0 l0, .slice p1 q1 l1, .slice (some ⟨b, o, none⟩) q2 l2] := by rw [← ha1]; exact (putsL_in2 _ _ _ _ (by decide) (show 57 < 113 from by decide)).trans (hdep 0 (by kernel_rfl))
                  have E58 : a1.tmps[58]?.getD undef = .int .i64 id := by rw [← ha1]; exact (putsL_in2 _ _ _ _ (by decide) (show 58 < 113 from by decide)).trans (hdep 1 (by kernel_rfl))
                  have E59 : a1.tmps[59]?.getD undef = .int .i64 h := by rw [← ha1]; exact (putsL_in2 _ _ _ _ (by decide) (show 59 < 113 from by decide)).trans (hdep 2 (by kernel_rfl))
                  refine wpOp_call rfl rfl (n := 22) (vs := #[.agg #[.slice p0 q0 l0, .slice p1 q1 l1, .slice (some ⟨b, o, none⟩) q2 l2], .int .i64 id, .int .i64 h]) (by have := egH #[.agg #[.slice p0 q0 l0, .slice p1 q1 l1, .slice (some ⟨b, o, none⟩) q2 l2], .int .i64 id, .int .i64 h] W; simp [execOp, E57, E58, E59, resolve, invoke, go_sem] <;> exact this) ((HHX.out W hIW).mono fun e w' h => (⟨_, h.1, rfl, h.2⟩ : ∃ v, e = .returned v ∧ (v = .int .i64 nw ∧ J w'))) ?_
                  rintro v w' ⟨rfl, hI'⟩
                  exact ⟨hI', fun _ h => h, Or.inl ⟨_, by decide, rfl, updF_same _ _ _⟩⟩
                | 4, _, hdep =>
                  have E4 : a1.tmps[4]?.getD undef = .pointer (some ⟨bR, 0, none⟩) := by rw [← ha1]; exact (putsL_out2 _ _ _ _ (by decide)).trans rfl
                  have v0 : W.cell? ⟨bR, 0, none⟩ = some (.slice a0 n0 j0) := by simpa using HCR.out W hIW 0
                  have v1 : W.cell? ⟨bR, 1, none⟩ = some (.slice b0 m0 j1) := by simpa using HCR.out W hIW 1
                  have v2 : W.cell? ⟨bR, 2, none⟩ = some (.slice e0 k0 j2) := by simpa using HCR.out W hIW 2
                  exact wpOp_val rfl rfl (v := .agg #[.slice a0 n0 j0, .slice b0 m0 j1, .slice e0 k0 j2]) (w' := W) (by simp [execOp, go_sem, E4, v0, v1, v2]) ⟨hIW, fun _ h => h, Or.inl ⟨_, by decide, rfl, updF_same _ _ _⟩⟩
                | 5, _, hdep =>
                  have E9 : a1.tmps[9]?.getD undef = .int .i64 id := by rw [← ha1]; exact (putsL_out2 _ _ _ _ (by decide)).trans rfl
                  exact wpOp_val rfl rfl (v := .int .i64 id) (w' := W) (by simp [execOp, go_sem, E9]) ⟨hIW, fun _ h => h, Or.inl ⟨_, by decide, rfl, updF_same _ _ _⟩⟩
                | 6, _, hdep =>
                  have E10 : a1.tmps[10]?.getD undef = .int .i64 h := by rw [← ha1]; exact (putsL_out2 _ _ _ _ (by decide)).trans rfl
                  exact wpOp_val rfl rfl (v := .int .i64 h) (w' := W) (by simp [execOp, go_sem, E10]) ⟨hIW, fun _ h => h, Or.inl ⟨_, by decide, rfl, updF_same _ _ _⟩⟩
                | 7, _, hdep =>
                  have E61 : a1.tmps[61]?.getD undef = .agg #[.slice a0 n0 j0, .slice b0 m0 j1, .slice e0 k0 j2] := by rw [← ha1]; exact (putsL_in2 _ _ _ _ (by decide) (show 61 < 113 from by decide)).trans (hdep 4 (by kernel_rfl))
                  have E62 : a1.tmps[62]?.getD undef = .int .i64 id := by rw [← ha1]; exact (putsL_in2 _ _ _ _ (by decide) (show 62 < 113 from by decide)).trans (hdep 5 (by kernel_rfl))
                  have E63 : a1.tmps[63]?.getD undef = .int .i64 h := by rw [← ha1]; exact (putsL_in2 _ _ _ _ (by decide) (show 63 < 113 from by decide)).trans (hdep 6 (by kernel_rfl))
                  refine wpOp_call rfl rfl (n := 22) (vs := #[.agg #[.slice a0 n0 j0, .slice b0 m0 j1, .slice e0 k0 j2], .int .i64 id, .int .i64 h]) (by have := egH #[.agg #[.slice a0 n0 j0, .slice b0 m0 j1, .slice e0 k0 j2], .int .i64 id, .int .i64 h] W; simp [execOp, E61, E62, E63, resolve, invoke, go_sem] <;> exact this) ((HHR.out W hIW).mono fun e w' h => (⟨_, h.1, rfl, h.2⟩ : ∃ v, e = .returned v ∧ (v = .int .i64 od ∧ J w'))) ?_
                  rintro v w' ⟨rfl, hI'⟩
                  exact ⟨hI', fun _ h => h, Or.inl ⟨_, by decide, rfl, updF_same _ _ _⟩⟩
                | 8, _, hdep =>
                  have E60 : a1.tmps[60]?.getD undef = .int .i64 nw := by rw [← ha1]; exact (putsL_in2 _ _ _ _ (by decide) (show 60 < 113 from by decide)).trans (hdep 3 (by kernel_rfl))
                  exact wpOp_val rfl rfl (v := .int .i64 nw) (w' := W) (by simp [execOp, go_sem, E60]) ⟨hIW, fun _ h => h, Or.inl ⟨_, by decide, rfl, updF_same _ _ _⟩⟩
                | 9, _, hdep =>
                  have E64 : a1.tmps[64]?.getD undef = .int .i64 od := by rw [← ha1]; exact (putsL_in2 _ _ _ _ (by decide) (show 64 < 113 from by decide)).trans (hdep 7 (by kernel_rfl))
                  exact wpOp_val rfl rfl (v := .int .i64 od) (w' := W) (by simp [execOp, go_sem, E64]) ⟨hIW, fun _ h => h, Or.inl ⟨_, by decide, rfl, updF_same _ _ _⟩⟩
                | iq + 10, h, _ => exact absurd h (by omega)
              case refine_2 =>
                intro f W hIW hR
                have h11 : f 11 = .int .i64 nw := hR 8 (show 8 < 10 from by decide)
                have h12 : f 12 = .int .i64 od := hR 9 (show 9 < 10 from by decide)
                simp only [putsL, List.foldl_cons, List.foldl_nil, Act.put, List.setIfInBounds_toArray, List.set_cons_zero, List.set_cons_succ]
                go_wp2
                go_meet
                exact ⟨(by first | rfl | exact h11), (by first | rfl | exact h12), Lib.hid hIW⟩
            case rest =>
                obtain ⟨rfl, rfl, HJW⟩ := hcut
                have HBW := Lib.hid (HJO.out _ HJW.out)
                have hM := HCM0.out _ HBW.out
                clear HJ0 HJD HCR HCX HHR HHX HB
                have z3 := obj_cell hM 3
                have z4 := obj_cell hM 4
                have z5 := obj_cell hM 5
                have z6 := obj_cell hM 6
                simp at z3 z4 z5 z6
                clear hM
                have hw1 : IntKind.i64.wrap (nw - od) = nw - od := IntWalk.i64_in _ (by omega)
                have hw2 : IntKind.i64.wrap (od - nw) = od - nw := IntWalk.i64_in _ (by omega)
                have hw3 : IntKind.i64.wrap (h + 1) = h + 1 := IntWalk.i64_in _ (by omega)
                by_cases e1 : id = g3
                · subst e1
                  by_cases e2 : h = g4
                  · subst e2
                    have hrl := HRL.out.1 ⟨rfl, Or.inl rfl⟩
                    rcases hrl with hrl | hrl
                    · have hb1 : (nw - od != g6) = false := by simp [hrl]
                      go_wp2
                      go_roundw
                      case rel => exact ⟨_, rfl, by omega, by omega, HBW⟩
                      case measure => simp [RowKit.intOf]; omega
                    · by_cases hx : nw - od = g6
                      · exact absurd hx (by omega)
                      · have hb1 : (nw - od != g6) = true := by simpa using hx
                        have hb2 : (od - nw != g6) = false := by simp [hrl]
                        go_wp2
                        go_roundw
                        case rel => exact ⟨_, rfl, by omega, by omega, HBW⟩
                        case measure => simp [RowKit.intOf]; omega
                  · have e2b : (h == g4) = false := beq_eq_false_iff_ne.2 e2
                    by_cases e3 : h = g5
                    · subst e3
                      have hrl := HRL.out.1 ⟨rfl, Or.inr rfl⟩
                      by_cases hx : nw - od = g6
                      · have hb1 : (nw - od != g6) = false := by simp [hx]
                        go_wp2
                        go_roundw
                        case rel => exact ⟨_, rfl, by omega, by omega, HBW⟩
                        case measure => simp [RowKit.intOf]; omega
                      · have hb1 : (nw - od != g6) = true := by simpa using hx
                        have hb2 : (od - nw != g6) = false := by
                          have : od - nw = g6 := by omega
                          simp [this]
                        go_wp2
                        go_roundw
                        case rel => exact ⟨_, rfl, by omega, by omega, HBW⟩
                        case measure => simp [RowKit.intOf]; omega
                    · have e3b : (h == g5) = false := beq_eq_false_iff_ne.2 e3
                      have hnn := HRL.out.2 (fun q => q.2.elim e2 e3)
                      have hb1 : (nw != od) = false := by simp [hnn]
                      go_wp2
                      go_roundw
                      case rel => exact ⟨_, rfl, by omega, by omega, HBW⟩
                      case measure => simp [RowKit.intOf]; omega
                · have e1b : (id == g3) = false := beq_eq_false_iff_ne.2 e1
                  have hnn := HRL.out.2 (fun q => e1 q.1.symm)
                  have hb1 : (nw != od) = false := by simp [hnn]
                  go_wp2
                  go_roundw
                  case rel => exact ⟨_, rfl, by omega, by omega, HBW⟩
                  case measure => simp [RowKit.intOf]; omega
          · have hw3 : IntKind.i64.wrap (id + 1) = id + 1 := IntWalk.i64_in _ (by omega)
            go_wp2
            go_roundw
            case rel => exact ⟨_, rfl, by omega, by omega, HB⟩
            case measure => simp [RowKit.intOf]; omega
      · have hX := HCX0.out _ HB.out
        have x0 := obj_cell hX 0
        have x1 := obj_cell hX 1
        have x2 := obj_cell hX 2
        simp at x0 x1 x2
        clear hX
        go_wp2_with fail
        with_reducible refine Calls.mono (HCK0.out _ HB.out) ?_
        rintro e w9 ⟨rfl, hb9⟩
        have HB9 := Lib.hid (HB.out.trans (hb9.mono HB.out.size))
        clear hb9
        go_wp2_with fail
        refine (HSN.out _).mono ?_
        rintro e w10 ⟨rfl, hb10⟩
        have HE := Lib.hid (HFIN.out _ ((HSI.out.below HB9.out).below hb10))
        clear hb10
        go_wp2
        go_ret
        exact ⟨rfl, HE.out⟩

end Go.Proofs.Ytnfllgeneehjjaa
