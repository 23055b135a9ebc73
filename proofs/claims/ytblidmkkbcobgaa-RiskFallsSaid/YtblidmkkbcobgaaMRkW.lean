/- What falls due of a debt year by year, in which year most does, and how long it runs on the average: for every tape. -/
import Derived.Test.YtblidmkkbcobgaaMRkS
import Derived.Test.YtblidmkkbcobgaaMRkG
import Derived.Test.YtblidmkkbcobgaaMRkT
import Derived.Test.YtblidmkkbcobgaaMRoK
import Derived.Shelf.RegionOpenPlain
set_option linter.unusedSimpArgs false
set_option linter.unusedVariables false
set_option linter.unusedSimpArgs false
set_option linter.unusedVariables false
namespace Go.Proofs.Ytblidmkkbcobgaa
open Go.RowKit Go.Lib Go.Proofs

theorem RegG.early {r : Reg} (h : RegG r) : ∀ x ∈ r.hs, 0 ≤ (secAt r.secs x.sec).mat ∧ (secAt r.secs x.sec).mat ≤ 1900 := fun x hx => by
  obtain ⟨h1, h2, h3⟩ := h.ok.known x hx
  obtain ⟨z, q, k, k1, k2, k3⟩ := h.gen _ h3
  have h4 := k.iss0
  have h5 := k.term
  have h6 := k.r0
  rcases k.ev with e | e | e | e | e <;> obtain ⟨e1, e2⟩ := e <;> (try obtain ⟨e2, e3⟩ := e2) <;> subst_vars <;> omega
/-- The nearest and the farthest maturity behind a day. -/
def NearI (secs : List Sec) (d n f : Int) (l : List Hld) : Prop := (0 ≤ n ∧ n ≤ 36000) ∧ (0 ≤ f ∧ f ≤ 36000) ∧ ∀ h ∈ l, d < (secAt secs h.sec).mat → n ≤ (secAt secs h.sec).mat - d ∧ (secAt secs h.sec).mat - d ≤ f
theorem NearI.snoc_in {secs : List Sec} {d n f : Int} {l : List Hld} {x : Hld} (h : NearI secs d n f l) (hx : d < (secAt secs x.sec).mat) (hm : (secAt secs x.sec).mat ≤ 36000) (hd : 0 ≤ d) : NearI secs d (min n ((secAt secs x.sec).mat - d)) (max f ((secAt secs x.sec).mat - d)) (l ++ [x]) := by
  obtain ⟨h1, h2, h3⟩ := h
  refine ⟨by omega, by omega, fun y hy hm2 => ?_⟩
  rw [List.mem_append, List.mem_singleton] at hy
  rcases hy with hy | rfl
  · have := h3 y hy hm2; omega
  · omega
theorem NearI.snoc_out {secs : List Sec} {d n f : Int} {l : List Hld} {x : Hld} (h : NearI secs d n f l) (hx : ¬ d < (secAt secs x.sec).mat) : NearI secs d n f (l ++ [x]) := by
  obtain ⟨h1, h2, h3⟩ := h
  refine ⟨h1, h2, fun y hy hm2 => ?_⟩
  rw [List.mem_append, List.mem_singleton] at hy
  rcases hy with hy | rfl
  · exact h3 y hy hm2
  · exact absurd hm2 hx

set_option maxRecDepth 100000 in
set_option maxHeartbeats 16000000 in
theorem rifalls_any (v : Value) (l : Nat) (w : World) (hi : IntsAt w v l w.heap.size) (hn : l ≤ 9223372036854775807) :
    Calls Try.prog 5 #[v] w fun e w' => e = .returned (.bool true) ∧ Below w.heap.size w w' := by
  have HNEW := Lib.hid (sNew_any v l w hi hn)
  have HSN := Lib.hid sane39_any
  clear hi hn
  go_enter Try.func5, Try.ntmps5
  go_wp2_with fail
  refine (HNEW.out).mono ?_
  rintro e w1 ⟨rfl, t1, b1⟩
  obtain ⟨tb, htb⟩ : ∃ tb, tb = w.heap.size := ⟨_, rfl⟩
  rw [← htb] at t1 ⊢
  have HRS := Lib.hid (sRegister_any tb 8 w1 t1 (by omega))
  have HFIN : Hid (∀ W, SI w1 tb W → Below w.heap.size w W) := Lib.hid fun W hW => b1.grown hW.old b1.size (fun q e => by injection e with e; omega)
  clear t1 b1 HNEW htb
  go_wp2_with fail
  with_reducible refine Calls.mono HRS.out ?_
  rintro e w2 ⟨x, y, z, r, d, rfl, hG, hs0, hs1, hml, hd, hra, hsi⟩
  obtain ⟨a0, n0, c0, b0, m0, d0, e0, k0, f0, rfl, rfl, rfl⟩ := hra.slices
  obtain ⟨bR, hbR⟩ : ∃ b, b = w2.heap.size := ⟨_, rfl⟩
  obtain ⟨w3, hw3⟩ : ∃ W, W = w2.alloc (.cells #[.slice a0 n0 c0, .slice b0 m0 d0, .slice e0 k0 f0] 29) := ⟨_, rfl⟩
  have HI3 : Hid (RgI w1 tb bR (.slice a0 n0 c0) (.slice b0 m0 d0) (.slice e0 k0 f0) r w3) := Lib.hid (by
    rw [hw3, hbR]
    have hlt := hsi.lt
    have hsz := hsi.old.size
    exact ⟨hsi.alloc _, heap_alloc_new _ _, hra.below (below_alloc _ _), by omega, hsz⟩)
  have HG := Lib.hid hG
  clear hG hra hsi HRS hs0 hs1 hml
  have HRG : Hid (∀ W, Below w3.heap.size w3 W → RgI w1 tb bR (.slice a0 n0 c0) (.slice b0 m0 d0) (.slice e0 k0 f0) r W) := Lib.hid fun W hW => HI3.out.below hW
  have HCR : Hid (∀ W, Below w3.heap.size w3 W → W.cell? ⟨bR, 0, none⟩ = some (.slice a0 n0 c0) ∧ W.cell? ⟨bR, 1, none⟩ = some (.slice b0 m0 d0) ∧ W.cell? ⟨bR, 2, none⟩ = some (.slice e0 k0 f0)) := Lib.hid fun W hW => by
    have hx := (HRG.out W hW).box
    have s0 := obj_cell hx 0
    have s1 := obj_cell hx 1
    have s2 := obj_cell hx 2
    simp at s0 s1 s2
    exact ⟨s0, s1, s2⟩
  go_upto_region 3 with fail
  rw [← hw3, ← hbR]
  clear hw3 hbR HI3
  obtain ⟨s0, s1, s2⟩ := HCR.out _ (Below.refl _ _)
  go_wp2_with fail
  with_reducible refine Calls.mono (riFalls_ok r _ _ _ 0 60 w3 HG.out.ok (HRG.out _ (Below.refl _ _)).reg (by omega) (by omega)) ?_
  rintro e w4 ⟨vf, rfl, ho4, hb4⟩
  obtain ⟨g, fc, rfl, hgb, hfc⟩ := owns_shape ho4 (by omega)
  have HB4 := Lib.hid hb4
  have HPC : Hid (∀ W, Below w4.heap.size w4 W → ∀ k, k < 60 → W.cell? ⟨g, k, none⟩ = some (.int .i64 (fallsM r (k : Int)))) := Lib.hid fun W hW k hk => by
    have hlen := fallsL_len r 0 60
    rw [(ownsRow_below ho4 hW).cellAt k (by omega), cellsI_get _ _ (by omega)]
    have := fallsL_get r 0 60 k (by omega)
    simp [List.getD, show k < (fallsL r 0 60).length by omega]
    rw [this, Int.zero_add]
  clear ho4 hb4 s0 s1 s2
  obtain ⟨s0, s1, s2⟩ := HCR.out _ HB4.out
  go_wp2_with fail
  with_reducible refine Calls.mono (riGreatest_ok r _ _ _ 0 60 w4 HG.out.ok (HRG.out _ HB4.out).reg (by omega) (by omega)) ?_
  rintro e w5 ⟨yq0, pq, rfl, hgr, hb5⟩
  have HB5 := Lib.hid (HB4.out.trans (hb5.mono HB4.out.size))
  have HP5 := Lib.hid hb5
  obtain ⟨M, hM⟩ : ∃ M, M = maxM (fallsL r 0 60) := ⟨_, rfl⟩
  have hfm : ∀ k : Nat, k < 60 → fallsM r (k : Int) ≤ M := fun k hk => by
    rw [hM]
    refine maxM_ge ?_
    unfold fallsL
    rw [List.mem_map]
    exact ⟨k, by simp; exact hk, by simp⟩
  have hyk : ∃ ky : Nat, yq0 = (ky : Int) ∧ ky < 60 ∧ fallsM r (ky : Int) = M ∧ 0 ≤ pq ∧ pq ≤ 100 := by
    rw [← hM] at hgr
    rcases hgr with ⟨h1, h2, h3⟩ | ⟨h1, k, h2, h3, h4, h5⟩
    · refine ⟨0, by simpa using h2, by omega, ?_, by omega, by omega⟩
      have a := hfm 0 (by omega)
      have b := falls_in HG.out.ok ((0 : Nat) : Int)
      omega
    · have hk : k < (fallsL r 0 60).length := by
        rcases Nat.lt_or_ge k (fallsL r 0 60).length with a | a
        · exact a
        · rw [List.getElem?_eq_none a] at h3; cases h3
      have hg := fallsL_get r 0 60 k hk
      rw [List.getElem?_eq_getElem hk] at h3
      injection h3 with h3
      rw [fallsL_len] at hk
      exact ⟨k, by omega, hk, by rw [← h3, hg, Int.zero_add], h4, h5⟩
  obtain ⟨ky, rfl, hky, hMk, hpq0, hpq1⟩ := hyk
  have HMK := Lib.hid hMk
  have HM := Lib.hid hM
  clear hgr hb5 hfm s0 s1 s2 hMk hM
  obtain ⟨s0, s1, s2⟩ := HCR.out _ HB5.out
  go_wp2_with fail
  with_reducible refine Calls.mono (riterm_ok r _ _ _ d w5 HG.out.ok (HRG.out _ HB5.out).reg (by omega)) ?_
  rintro e w6 ⟨rfl, hb6⟩
  have HB6 := Lib.hid (HB5.out.trans (hb6.mono HB5.out.size))
  have HP6 := Lib.hid (HP5.out.trans (hb6.mono HP5.out.size))
  have HTI := Lib.hid (term_in (secs := r.secs) (day := d) hd.1 (l := r.hs) fun x hx => ⟨HG.out.ok.hld x hx, (HG.out.ok.known x hx).2.1⟩)
  have HTB := Lib.hid (fun (near far : Int) => term_between (secs := r.secs) (day := d) (near := near) (far := far) (l := r.hs) HG.out.ok.hld)
  obtain ⟨TN, hTN⟩ : ∃ t, t = termN r.secs d r.hs := ⟨_, rfl⟩
  obtain ⟨TD, hTD⟩ : ∃ t, t = termD r.secs d r.hs := ⟨_, rfl⟩
  rw [← hTN, ← hTD] at HTI HTB
  rw [← hTN, ← hTD]
  clear hb6 s0 s1 s2 hTN hTD HB4 HB5 HP5
  go_wp2
  have hdb := HG.out.ok.debt_in
  have hall := falls_all HG.out.ok 60 fun x hx => by have := HG.out.early x hx; unfold dueY; omega
  have HALL := Lib.hid hall
  obtain ⟨db, hdbe⟩ : ∃ q, q = debtM r.hs := ⟨_, rfl⟩
  have HDBE := Lib.hid hdbe
  rw [← hdbe] at hdb
  clear hall hdbe
  go_loopw [14, 15, 66] (fun sv mv iv wr => ∃ (k : Nat) (sq mq : Int), sv = .int .i64 sq ∧ mv = .int .i64 mq ∧ iv = .int .i64 (k : Int) ∧ k ≤ 60 ∧ Hid (sq = raisedM r 0 k ∧ mq = maxM (fallsL r 0 k)) ∧ wr = w6) (fun _ _ iv _ => 60 - (RowKit.intOf iv).toNat)
  case atStart => exact ⟨0, 0, 0, rfl, rfl, rfl, by omega, Lib.hid ⟨rfl, rfl⟩, rfl⟩
  case round =>
    obtain ⟨k, sq, mq, rfl, rfl, rfl, hkm, HSM, rfl⟩ := hrel
    by_cases hlk : k < 60
    · have c0 := HPC.out _ HP6.out k hlk
      have hfi := falls_in HG.out.ok (k : Int)
      have hri := raised_in HG.out.ok 0 k
      rw [← HDBE.out] at hfi hri
      have HNX : Hid (sq + fallsM r (k : Int) = raisedM r 0 (k + 1) ∧ max mq (fallsM r (k : Int)) = maxM (fallsL r 0 (k + 1))) := Lib.hid (by
        obtain ⟨e1, e2⟩ := HSM.out
        rw [e1, e2, fallsL_snoc, Int.zero_add, maxM_snoc _ hfi.1]
        refine ⟨?_, rfl⟩
        simp only [raisedM, Int.zero_add]
        omega)
      rw [← HSM.out.1] at hri
      obtain ⟨fq, hfq⟩ : ∃ fq, fq = fallsM r (k : Int) := ⟨_, rfl⟩
      rw [← hfq] at c0 hfi HNX
      obtain ⟨m2, hm2⟩ : ∃ m2, m2 = max mq fq := ⟨_, rfl⟩
      have hm3 := hm2.symm
      rw [hm3] at HNX
      have hws : IntKind.i64.wrap (sq + fq) = sq + fq := IntWalk.i64_in _ (by omega)
      have hwk : IntKind.i64.wrap ((k : Int) + 1) = (k : Int) + 1 := IntWalk.i64_in _ (by omega)
      have hk2 : (0 : Int) ≤ (k : Int) := by omega
      have hk3 : (k : Int) < 60 := by omega
      clear hm2 hfq
      go_wp2
      go_roundw
      case rel => exact ⟨k + 1, sq + fq, m2, rfl, rfl, by first | rfl | go_num, by omega, HNX, by first | exact trivial | rfl⟩
      case measure => simp [RowKit.intOf]; omega
    · obtain rfl : k = 60 := by omega
      have hsq : sq = db := by rw [HSM.out.1, HDBE.out]; exact HALL.out
      have hmq : mq = M := by rw [HSM.out.2, HM.out]
      subst hsq hmq
      obtain ⟨s0, s1, s2⟩ := HCR.out _ HB6.out
      clear HSM hlk hkm
      go_wp2_with fail
      with_reducible refine Calls.mono (ryDebt_ok r _ _ _ _ HG.out.ok (HRG.out _ HB6.out).reg) ?_
      rintro e w7 ⟨he, hb7⟩
      rw [← HDBE.out] at he
      subst he
      have HB7 := Lib.hid (HB6.out.trans (hb7.mono HB6.out.size))
      have cM := HPC.out _ (HP6.out.trans (hb7.mono HP6.out.size)) ky hky
      rw [HMK.out] at cM
      have hy0 : ¬ ((ky : Int) < 0) := by omega
      have hy1 : ¬ ((60 : Int) ≤ (ky : Int)) := by omega
      have hy2 : (0 : Int) ≤ (ky : Int) := by omega
      have hy3 : (ky : Int) < 60 := by omega
      have hp0 : ¬ (pq < 0) := by omega
      have hp1 : ¬ (100 < pq) := by omega
      clear s0 s1 s2 hb7
      obtain ⟨s0, s1, s2⟩ := HCR.out _ HB7.out
      obtain ⟨ao, cap, e1, hcap, hsh⟩ := (HRG.out _ HB7.out).reg.hs.shape hldF
      injection e1 with e1 e2 e3
      subst e1
      have HSH := Lib.hid hsh
      have HLE := Lib.hid e2
      have hmr : m0 ≤ 1000000 := by have := HG.out.ok.hsLen; omega
      clear hsh hcap e3 e2 HPC HP6 HMK HM HALL HDBE
      generalize wr = w6 at *
      go_wp2
      clear s0 s1 s2 cM
      go_loopw [18, 19, 110] (fun nv fv iv wr => ∃ (k : Nat) (nq fq : Int), nv = .int .i64 nq ∧ fv = .int .i64 fq ∧ iv = .int .i64 (k : Int) ∧ k ≤ m0 ∧ Hid (NearI r.secs d nq fq (r.hs.take k)) ∧ Hid (Below w7.heap.size w7 wr)) (fun _ _ iv _ => m0 - (RowKit.intOf iv).toNat)
      case atStart => exact ⟨0, 36000, 0, rfl, rfl, rfl, by omega, Lib.hid ⟨by omega, by omega, by simp⟩, Lib.hid (Below.refl _ _)⟩
      case round =>
        obtain ⟨k, nq, fq, rfl, rfl, rfl, hkm, HNF, HBW⟩ := hrel
        by_cases hlk : k < m0
        · have hlr : k < r.hs.length := by have := HLE.out; omega
          obtain ⟨bl, ol, rfl, hbl, hcc⟩ := HSH.out (by omega)
          have hc := hcc k hlr
          have hxm : r.hs[k] ∈ r.hs := List.getElem_mem hlr
          have htk : r.hs.take (k + 1) = r.hs.take k ++ [r.hs[k]] := List.take_succ_eq_append_getElem hlr
          generalize r.hs[k] = x at hc hxm htk
          obtain ⟨g0, g1, g2⟩ := x
          have g00 : wr.cell? ⟨bl, ol + k * 3, none⟩ = some (.int .i64 g0) := (HBW.out.cell (p := ⟨bl, ol + k * 3, none⟩) hbl).trans (hc 0 (by omega))
          have g01 : wr.cell? ⟨bl, ol + k * 3 + 1, none⟩ = some (.int .i64 g1) := (HBW.out.cell (p := ⟨bl, ol + k * 3 + 1, none⟩) hbl).trans (hc 1 (by omega))
          have g02 : wr.cell? ⟨bl, ol + k * 3 + 2, none⟩ = some (.int .i64 g2) := (HBW.out.cell (p := ⟨bl, ol + k * 3 + 2, none⟩) hbl).trans (hc 2 (by omega))
          have hes := HG.out.early _ hxm
          have HB8 := Lib.hid (HBW.out.alloc HBW.out.size (.cells #[.int .i64 g0, .int .i64 g1, .int .i64 g2] 53))
          have hxb := heap_alloc_new wr (.cells #[.int .i64 g0, .int .i64 g1, .int .i64 g2] 53)
          obtain ⟨bH, hbH⟩ : ∃ b, b = wr.heap.size := ⟨_, rfl⟩
          obtain ⟨w8, hw8⟩ : ∃ W, W = wr.alloc (.cells #[.int .i64 g0, .int .i64 g1, .int .i64 g2] 53) := ⟨_, rfl⟩
          rw [← hw8] at HB8 hxb
          rw [← hbH] at hxb
          have h80 := obj_cell hxb 0
          simp at h80
          have hk0 : (0 : Int) ≤ (k : Int) := by omega
          have hk1 : (k : Int) < (m0 : Int) := by omega
          have hwk : IntKind.i64.wrap ((k : Int) + 1) = (k : Int) + 1 := IntWalk.i64_in _ (by omega)
          clear hcc hc hxm hxb hlr
          go_upto_region 20 with fail
          rw [← hw8, ← hbH]
          clear hw8 hbH g00 g01 g02 hbl
          have HFD := ryFind_any r.secs g0 (.slice a0 n0 c0) (.slice (some ⟨bl, ol, none⟩) m0 d0) (.slice e0 k0 f0) w8 (HRG.out _ (HB7.out.trans (HB8.out.mono HB7.out.size))).reg.secs (by have := HG.out.ok.secs.len; omega)
          obtain ⟨fb, hfb⟩ : ∃ fb, fb = (findS g0 r.secs).isSome := ⟨_, rfl⟩
          obtain ⟨s, hs⟩ : ∃ s, s = secAt r.secs g0 := ⟨_, rfl⟩
          rw [← hfb, show (findS g0 r.secs).getD Sec.zero = s from hs.symm] at HFD
          have hns := fun h => HNF.out.snoc_in (x := ⟨g0, g1, g2⟩) h (by show _ ≤ 36000; omega) hd.1
          have hno := fun h => HNF.out.snoc_out (x := ⟨g0, g1, g2⟩) h
          rw [← htk] at hns hno
          simp only [← hs] at hns hno hes
          clear hfb hs htk
          obtain ⟨t0, t1, t2, t3, t4, t5, t6⟩ := s
          simp only [Sec.cells] at HFD
          simp only at hns hno hes
          have HFDh := Lib.hid HFD
          have hnb := HNF.out
          obtain ⟨hn0, hf0, -⟩ := hnb
          clear HFD
          obtain ⟨s0, s1, s2⟩ := HCR.out _ (HB7.out.trans (HB8.out.mono HB7.out.size))
          go_wp2_with fail
          with_reducible refine Calls.mono HFDh.out ?_
          rintro e w9 ⟨rfl, hb9⟩
          have HB9 := Lib.hid (HB8.out.trans (hb9.mono HB8.out.size))
          have HB10 := Lib.hid (HB9.out.alloc HB9.out.size (.cells #[.int .i64 t0, .int .i64 t1, .int .i64 t2, .int .i64 t3, .int .i64 t4, .int .i64 t5, .bool t6] 55))
          have hxb := heap_alloc_new w9 (.cells #[.int .i64 t0, .int .i64 t1, .int .i64 t2, .int .i64 t3, .int .i64 t4, .int .i64 t5, .bool t6] 55)
          obtain ⟨bS, hbS⟩ : ∃ b, b = w9.heap.size := ⟨_, rfl⟩
          obtain ⟨w10, hw10⟩ : ∃ W, W = w9.alloc (.cells #[.int .i64 t0, .int .i64 t1, .int .i64 t2, .int .i64 t3, .int .i64 t4, .int .i64 t5, .bool t6] 55) := ⟨_, rfl⟩
          rw [← hw10] at HB10 hxb
          rw [← hbS] at hxb
          have c3 := obj_cell hxb 3
          simp at c3
          have HXB := Lib.hid hxb
          clear hb9 HFDh s0 s1 s2 h80 hxb
          go_upto_region 21 with fail
          rw [← hw10, ← hbS]
          clear hw10 hbS
          by_cases hin : d < t3
          · obtain ⟨n2, hn2⟩ : ∃ n2, n2 = min nq (t3 - d) := ⟨_, rfl⟩
            obtain ⟨f2, hf2⟩ : ∃ f2, f2 = max fq (t3 - d) := ⟨_, rfl⟩
            have HNX : Hid (NearI r.secs d n2 f2 (r.hs.take (k + 1))) := Lib.hid (by rw [hn2, hf2]; exact hns hin)
            replace hn2 := hn2.symm
            replace hf2 := hf2.symm
            have hwt : IntKind.i64.wrap (t3 - d) = t3 - d := IntWalk.i64_in _ (by omega)
            clear hns hno
            go_upto_region 22 with fail
            have hmo : Try.prog.follows .mixedOrders = true := by kernel_rfl
            clear hn0 hf0 hes
            go_big_region_o
            have HBN := Lib.hid (HB10.out.drew)
            go_wp2
            go_roundw
            case rel => exact ⟨k + 1, n2, f2, rfl, rfl, by first | rfl | go_num, by omega, HNX, HBN⟩
            case measure => simp [RowKit.intOf]; omega
          · have HNX := Lib.hid (hno (by omega))
            clear hns hno
            go_wp2
            go_roundw
            case rel => exact ⟨k + 1, nq, fq, rfl, rfl, by first | rfl | go_num, by omega, HNX, HB10⟩
            case measure => simp [RowKit.intOf]; omega
        · obtain rfl : k = m0 := by omega
          have hnf := HNF.out
          rw [List.take_of_length_le (by rw [HLE.out]; exact Nat.le_refl _)] at hnf
          obtain ⟨hn0, hf0, hnf⟩ := hnf
          have htb := HTB.out nq fq hnf
          have hti := HTI.out
          have hdb2 := HG.out.ok.debt_in
          have HEND : Hid (∀ W, Below wr.heap.size wr W → Below w.heap.size w W) := Lib.hid fun W hW => HFIN.out _ (HRG.out _ (HB7.out.trans ((HBW.out.trans (hW.mono HBW.out.size)).mono HB7.out.size))).si
          by_cases hz : TD = 0
          · subst hz
            have hzn : TN = 0 := by simp only [Int.mul_zero] at htb; omega
            subst hzn
            clear htb hti hnf HNF hn0 hf0 HTI HTB
            go_wp2_with fail
            refine (HSN.out _).mono ?_
            rintro e w12 ⟨rfl, hb12⟩
            have HE := Lib.hid (HEND.out _ hb12)
            clear hb12
            go_wp2
            go_ret
            exact ⟨rfl, HE.out⟩
          · have hzb : (TD == 0) = false := beq_eq_false_iff_ne.2 hz
            obtain ⟨p1, hp1e⟩ : ∃ p, p = nq * TD := ⟨_, rfl⟩
            obtain ⟨p2, hp2e⟩ : ∃ p, p = fq * TD := ⟨_, rfl⟩
            have hm1 : 0 ≤ p1 ∧ p1 ≤ 36000 * 20000000000000 := by rw [hp1e]; exact ⟨Int.mul_nonneg hn0.1 (by omega), Int.mul_le_mul hn0.2 (by unfold debtM at hdb2; omega) (by omega) (by omega)⟩
            have hm2 : 0 ≤ p2 ∧ p2 ≤ 36000 * 20000000000000 := by rw [hp2e]; exact ⟨Int.mul_nonneg hf0.1 (by omega), Int.mul_le_mul hf0.2 (by unfold debtM at hdb2; omega) (by omega) (by omega)⟩
            rw [← hp1e, ← hp2e] at htb
            have hw1 : IntKind.i64.wrap (nq * TD) = p1 := by rw [← hp1e]; exact IntWalk.i64_in _ (by omega)
            have hw2 : IntKind.i64.wrap (fq * TD) = p2 := by rw [← hp2e]; exact IntWalk.i64_in _ (by omega)
            obtain ⟨hb1, hb2⟩ := htb
            clear hti hnf HNF hn0 hf0 HTI HTB hp1e hp2e hm1 hm2
            go_wp2_with fail
            refine (HSN.out _).mono ?_
            rintro e w12 ⟨rfl, hb12⟩
            have HE := Lib.hid (HEND.out _ hb12)
            clear hb12
            go_wp2
            go_ret
            exact ⟨rfl, HE.out⟩

end Go.Proofs.Ytblidmkkbcobgaa
