/- All flows of the debt are all coupons of present holdings and all that is outstanding, each paid on a business day: for every tape. -/
import Derived.Test.YtblidmkkbcobgaaMCfU
import Derived.Test.YtblidmkkbcobgaaMCpS
import Derived.Test.YtblidmkkbcobgaaMRzR
import Derived.Test.YtblidmkkbcobgaaMLaw
set_option linter.unusedSimpArgs false
set_option linter.unusedVariables false
set_option linter.unusedSimpArgs false
set_option linter.unusedVariables false
namespace Go.Proofs.Ytblidmkkbcobgaa
open Go.RowKit Go.Lib Go.Proofs

theorem days_few {s : Sec} (h : SecG s) : (daysQ s).length ≤ 5 := by
  obtain ⟨z, q, k, k1, k2, k3⟩ := h
  unfold daysQ daysM
  rw [k.z_eq, k.r_eq]
  split
  · simp
  · rw [daysL_len]; omega
theorem flat_len {r : Reg} : ∀ {l : List Sec}, (∀ s ∈ l, SecG s) → (l.flatMap (secL r)).length ≤ 6 * l.length
  | [], _ => by simp
  | s :: l, h => by
    have h1 := days_few (h s List.mem_cons_self)
    have h2 := sec_len r s
    have h3 := flat_len (r := r) (l := l) fun t ht => h t (List.mem_cons_of_mem _ ht)
    rw [List.flatMap_cons, List.length_append, List.length_cons]
    omega
theorem want_in {r : Reg} (h : RegOk r) : ∀ {l : List Hld}, (∀ x ∈ l, x ∈ r.hs) → 0 ≤ wantM r.secs l ∧ wantM r.secs l ≤ 601000000000000 * (l.length : Int)
  | [], _ => by simp [wantM]
  | x :: l, hx => by
    have h1 := want_in h (l := l) fun y hy => hx y (List.mem_cons_of_mem _ hy)
    obtain ⟨h2, h3, h4⟩ := h.known x (hx x List.mem_cons_self)
    have h5 := h.hld x (hx x List.mem_cons_self)
    have h6 := coupon_in h3 (a := x.amt) (by have := h5.amt; omega)
    have h7 := days_len h3
    have h8 := h5.amt
    have h9 : 0 ≤ couponI (secAt r.secs x.sec) x.amt * ((daysQ (secAt r.secs x.sec)).length : Int) ∧ couponI (secAt r.secs x.sec) x.amt * ((daysQ (secAt r.secs x.sec)).length : Int) ≤ 1000000000000 * 600 := ⟨Int.mul_nonneg h6.1 (by omega), Int.mul_le_mul (by omega) (by omega) (by omega) (by omega)⟩
    have h10 : (601000000000000 : Int) * (((x :: l).length : Nat) : Int) = 601000000000000 * (l.length : Int) + 601000000000000 := by rw [List.length_cons, Int.natCast_add, Int.mul_add]; simp
    rw [wantM, h10]
    omega
theorem want_snoc (secs : List Sec) (l : List Hld) (x : Hld) : wantM secs (l ++ [x]) = wantM secs l + (couponI (secAt secs x.sec) x.amt * ((daysQ (secAt secs x.sec)).length : Int) + x.amt) := by
  rw [want_app]; simp [wantM]

set_option maxRecDepth 100000 in
set_option maxHeartbeats 16000000 in
theorem cpflows_any (v : Value) (l : Nat) (w : World) (hi : IntsAt w v l w.heap.size) (hn : l ≤ 9223372036854775807) :
    Calls Try.prog 8 #[v] w fun e w' => e = .returned (.bool true) ∧ Below w.heap.size w w' := by
  have HNEW := Lib.hid (sNew_any v l w hi hn)
  have HSN := Lib.hid sane34_any
  clear hi hn
  go_enter Try.func8, Try.ntmps8
  go_wp2_with fail
  refine (HNEW.out).mono ?_
  rintro e w1 ⟨rfl, t1, b1⟩
  obtain ⟨tb, htb⟩ : ∃ tb, tb = w.heap.size := ⟨_, rfl⟩
  rw [← htb] at t1 ⊢
  have HRS := Lib.hid (sRegister_any tb 8 w1 t1 (by omega))
  have HFIN : Hid (∀ W, SI w1 tb W → Below w.heap.size w W) := Lib.hid fun W hW => b1.grown hW.old b1.size (fun q e => by injection e with e; omega)
  clear t1 b1 HNEW htb
  go_wp2_with fail
  with_reducible refine Calls.mono HRS.out ?_
  rintro e w2 ⟨x, y, z, r, d, rfl, hG, hs0, hs1, hml, hd, hra, hsi⟩
  obtain ⟨a0, n0, c0, b0, m0, d0, e0, k0, f0, rfl, rfl, rfl⟩ := hra.slices
  obtain ⟨bR, hbR⟩ : ∃ b, b = w2.heap.size := ⟨_, rfl⟩
  obtain ⟨w3, hw3⟩ : ∃ W, W = w2.alloc (.cells #[.slice a0 n0 c0, .slice b0 m0 d0, .slice e0 k0 f0] 29) := ⟨_, rfl⟩
  have HI3 : Hid (RgI w1 tb bR (.slice a0 n0 c0) (.slice b0 m0 d0) (.slice e0 k0 f0) r w3) := Lib.hid (by
    rw [hw3, hbR]
    have hlt := hsi.lt
    have hsz := hsi.old.size
    exact ⟨hsi.alloc _, heap_alloc_new _ _, hra.below (below_alloc _ _), by omega, hsz⟩)
  have HG := Lib.hid hG
  have HUL : Hid ((untilL r).length < 20) := Lib.hid (by have := flat_len (r := r) hG.gen; unfold untilL; omega)
  clear hG hra hsi HRS hs0 hs1 hml
  have HRG : Hid (∀ W, Below w3.heap.size w3 W → RgI w1 tb bR (.slice a0 n0 c0) (.slice b0 m0 d0) (.slice e0 k0 f0) r W) := Lib.hid fun W hW => HI3.out.below hW
  have HCR : Hid (∀ W, Below w3.heap.size w3 W → W.cell? ⟨bR, 0, none⟩ = some (.slice a0 n0 c0) ∧ W.cell? ⟨bR, 1, none⟩ = some (.slice b0 m0 d0) ∧ W.cell? ⟨bR, 2, none⟩ = some (.slice e0 k0 f0)) := Lib.hid fun W hW => by
    have hx := (HRG.out W hW).box
    have s0 := obj_cell hx 0
    have s1 := obj_cell hx 1
    have s2 := obj_cell hx 2
    simp at s0 s1 s2
    exact ⟨s0, s1, s2⟩
  have HUT := Lib.hid (fun W (hW : Below w3.heap.size w3 W) => cpUntil_ok r (.slice a0 n0 c0) (.slice b0 m0 d0) (.slice e0 k0 f0) W HG.out.ok (HRG.out W hW).reg HUL.out)
  go_upto_region 3 with fail
  rw [← hw3, ← hbR]
  clear hw3 hbR HI3
  obtain ⟨s0, s1, s2⟩ := HCR.out _ (Below.refl _ _)
  go_wp2_with fail
  with_reducible refine Calls.mono (HUT.out w3 (Below.refl _ _)) ?_
  rintro e w4 ⟨vf, fl, rfl, hpm, hof, hb4⟩
  have hfl : fl.length < 20 := by rw [hpm.length_eq]; exact HUL.out
  obtain ⟨ag, cg, rfl, hcg, hgg⟩ := owns_gen hof
  have HB4 := Lib.hid hb4
  have HFL : Hid (ListAt flowC 4 w4 (.slice ag fl.length cg) fl) := Lib.hid (ListAt.owns hof)
  have HFM : Hid (∀ f ∈ fl, f.day % 7 ≤ 4 ∧ f.amt < 0 ∧ f.kind = 4) := Lib.hid fun f hf => until_ok HG.out.ok f (hpm.mem_iff.1 hf)
  have HFS : Hid (sumF fl = -(wantM r.secs r.hs)) := Lib.hid (by rw [sumF_perm hpm]; exact until_want HG.out.ok)
  have HWB : Hid (∀ k, 0 ≤ wantM r.secs (r.hs.take k) ∧ wantM r.secs (r.hs.take k) ≤ 480800000000000000) := Lib.hid fun k => by
    have h1 := want_in HG.out.ok (l := r.hs.take k) fun x hx => List.mem_of_mem_take hx
    have h2 : (r.hs.take k).length ≤ 800 := by have := HG.out.ok.hsLen; rw [List.length_take]; omega
    omega
  clear hpm hof hb4 hgg HUT HUL s0 s1 s2
  obtain ⟨ao, cap, e1, hcap, hsh⟩ := (HRG.out _ HB4.out).reg.hs.shape hldF
  injection e1 with e1 e2 e3
  subst e1
  have HSH := Lib.hid hsh
  have HLE := Lib.hid e2
  have hmr : m0 ≤ 1000000 := by have := HG.out.ok.hsLen; omega
  clear hsh hcap e3 e2
  obtain ⟨s0, s1, s2⟩ := HCR.out _ HB4.out
  go_wp2
  clear s0 s1 s2
  go_loopw [8, 35] (fun nv iv wr => ∃ (k : Nat) (nq : Int), nv = .int .i64 nq ∧ iv = .int .i64 (k : Int) ∧ k ≤ m0 ∧ Hid (nq = wantM r.secs (r.hs.take k)) ∧ Hid (Below w4.heap.size w4 wr)) (fun _ iv _ => m0 - (RowKit.intOf iv).toNat)
  case atStart => exact ⟨0, 0, rfl, rfl, by omega, Lib.hid (by simp [wantM]), Lib.hid (Below.refl _ _)⟩
  case round =>
    obtain ⟨k, nq, rfl, rfl, hkm, HNF, HBW⟩ := hrel
    by_cases hlk : k < m0
    · have hlr : k < r.hs.length := by have := HLE.out; omega
      obtain ⟨bl, ol, rfl, hbl, hcc⟩ := HSH.out (by omega)
      have hc := hcc k hlr
      have hxm : r.hs[k] ∈ r.hs := List.getElem_mem hlr
      have htk : r.hs.take (k + 1) = r.hs.take k ++ [r.hs[k]] := List.take_succ_eq_append_getElem hlr
      generalize r.hs[k] = x at hc hxm htk
      have hld := HG.out.ok.hld x hxm
      obtain ⟨hkn1, hkn2, hkn3⟩ := HG.out.ok.known x hxm
      have hwk0 := HWB.out k
      have hwk1 := HWB.out (k + 1)
      have hst := want_snoc r.secs (r.hs.take k) x
      rw [← htk] at hst
      have hnq := HNF.out
      rw [← hnq] at hst hwk0
      obtain ⟨g0, g1, g2⟩ := x
      have hamt := hld.amt
      simp only at hst hamt hkn1 hkn2 hkn3
      have g00 : wr.cell? ⟨bl, ol + k * 3, none⟩ = some (.int .i64 g0) := (HBW.out.cell (p := ⟨bl, ol + k * 3, none⟩) hbl).trans (hc 0 (by omega))
      have g01 : wr.cell? ⟨bl, ol + k * 3 + 1, none⟩ = some (.int .i64 g1) := (HBW.out.cell (p := ⟨bl, ol + k * 3 + 1, none⟩) hbl).trans (hc 1 (by omega))
      have g02 : wr.cell? ⟨bl, ol + k * 3 + 2, none⟩ = some (.int .i64 g2) := (HBW.out.cell (p := ⟨bl, ol + k * 3 + 2, none⟩) hbl).trans (hc 2 (by omega))
      have HB8 := Lib.hid (HBW.out.alloc HBW.out.size (.cells #[.int .i64 g0, .int .i64 g1, .int .i64 g2] 53))
      have hxb := heap_alloc_new wr (.cells #[.int .i64 g0, .int .i64 g1, .int .i64 g2] 53)
      obtain ⟨bH, hbH⟩ : ∃ b, b = wr.heap.size := ⟨_, rfl⟩
      obtain ⟨w8, hw8⟩ : ∃ W, W = wr.alloc (.cells #[.int .i64 g0, .int .i64 g1, .int .i64 g2] 53) := ⟨_, rfl⟩
      rw [← hw8] at HB8 hxb
      rw [← hbH] at hxb
      have HXH := Lib.hid hxb
      have h80 := obj_cell hxb 0
      simp at h80
      have hk0 : (0 : Int) ≤ (k : Int) := by omega
      have hk1 : (k : Int) < (m0 : Int) := by omega
      have hwk : IntKind.i64.wrap ((k : Int) + 1) = (k : Int) + 1 := IntWalk.i64_in _ (by omega)
      clear hcc hc hxm hxb hlr htk hnq HNF
      go_upto_region 10 with fail
      rw [← hw8, ← hbH]
      clear hw8 hbH g00 g01 g02 hbl
      have HFD := ryFind_any r.secs g0 (.slice a0 n0 c0) (.slice (some ⟨bl, ol, none⟩) m0 d0) (.slice e0 k0 f0) w8 (HRG.out _ (HB4.out.trans (HB8.out.mono HB4.out.size))).reg.secs (by have := HG.out.ok.secs.len; omega)
      obtain ⟨fb, hfb⟩ : ∃ fb, fb = (findS g0 r.secs).isSome := ⟨_, rfl⟩
      obtain ⟨s, hs⟩ : ∃ s, s = secAt r.secs g0 := ⟨_, rfl⟩
      rw [← hfb, show (findS g0 r.secs).getD Sec.zero = s from hs.symm] at HFD
      rw [← hs] at hst hkn2
      obtain ⟨z', q', hsk⟩ := hkn2
      have HCO := Lib.hid (fun W => cpCoupon_ok hsk g2 (by omega) (by omega) W)
      have HDA := Lib.hid (fun W => cpDays_ok hsk W)
      have hci := coupon_in (⟨z', q', hsk⟩ : SecR s) (a := g2) (by omega)
      have hdl := days_len (⟨z', q', hsk⟩ : SecR s)
      have hdq : daysQ s = daysM s z' q' := by unfold daysQ; rw [hsk.z_eq, hsk.r_eq]
      unfold DaysPost at HDA
      rw [← hdq] at HDA
      obtain ⟨D, hD⟩ : ∃ D, D = (daysQ s).length := ⟨_, rfl⟩
      obtain ⟨C, hC⟩ : ∃ C, C = couponI s g2 := ⟨_, rfl⟩
      rw [← hD, ← hC] at hst
      rw [← hD] at hdl HDA
      rw [← hC] at HCO hci
      have hmul : 0 ≤ C * (D : Int) ∧ C * (D : Int) ≤ 1000000000000 * 600 := ⟨Int.mul_nonneg hci.1 (by omega), Int.mul_le_mul (by omega) (by omega) (by omega) (by omega)⟩
      have HDY : Hid (∀ W, Calls Try.prog 34 #[.agg s.cells.toArray] W fun e W' => ∃ (a : Option Addr) (c : Nat), e = .returned (.slice a D c) ∧ Below W.heap.size W W') := Lib.hid fun W => (HDA.out W).mono fun e W' ⟨v, h1, h2, h3⟩ => by
        obtain ⟨a, c, h4, _⟩ := owns_gen h2
        exact ⟨a, c, by rw [h1, h4], h3⟩
      obtain ⟨M, hM⟩ : ∃ M, M = C * (D : Int) := ⟨_, rfl⟩
      rw [← hM] at hst hmul
      have hw1 : IntKind.i64.wrap (C * (D : Int)) = M := by rw [← hM]; exact IntWalk.i64_in _ (by omega)
      have hw2 : IntKind.i64.wrap (M + g2) = M + g2 := IntWalk.i64_in _ (by omega)
      have hw3 : IntKind.i64.wrap (nq + (M + g2)) = nq + (M + g2) := IntWalk.i64_in _ (by omega)
      have HNX : Hid (nq + (M + g2) = wantM r.secs (r.hs.take (k + 1))) := Lib.hid hst.symm
      clear hfb hs hst hsk hkn1 hkn3 hld hD hC hM hci hdl hdq HDA hwk0 hwk1 hmul hamt
      obtain ⟨t0, t1, t2, t3, t4, t5, t6⟩ := s
      simp only [Sec.cells] at HFD HCO HDY
      have HFDh := Lib.hid HFD
      clear HFD
      obtain ⟨s0, s1, s2⟩ := HCR.out _ (HB4.out.trans (HB8.out.mono HB4.out.size))
      go_wp2_with fail
      with_reducible refine Calls.mono HFDh.out ?_
      rintro e w9 ⟨rfl, hb9⟩
      have HB9 := Lib.hid (HB8.out.trans (hb9.mono HB8.out.size))
      have HB10 := Lib.hid (HB9.out.alloc HB9.out.size (.cells #[.int .i64 t0, .int .i64 t1, .int .i64 t2, .int .i64 t3, .int .i64 t4, .int .i64 t5, .bool t6] 55))
      have hxb := heap_alloc_new w9 (.cells #[.int .i64 t0, .int .i64 t1, .int .i64 t2, .int .i64 t3, .int .i64 t4, .int .i64 t5, .bool t6] 55)
      have hxh := obj_below (obj_below HXH.out hb9) (below_alloc w9 (.cells #[.int .i64 t0, .int .i64 t1, .int .i64 t2, .int .i64 t3, .int .i64 t4, .int .i64 t5, .bool t6] 55))
      obtain ⟨bS, hbS⟩ : ∃ b, b = w9.heap.size := ⟨_, rfl⟩
      obtain ⟨w10, hw10⟩ : ∃ W, W = w9.alloc (.cells #[.int .i64 t0, .int .i64 t1, .int .i64 t2, .int .i64 t3, .int .i64 t4, .int .i64 t5, .bool t6] 55) := ⟨_, rfl⟩
      rw [← hw10] at HB10 hxb hxh
      rw [← hbS] at hxb
      have HCS : Hid (∀ W, Below w10.heap.size w10 W → (∀ j, W.cell? ⟨bS, j, none⟩ = #[.int .i64 t0, .int .i64 t1, .int .i64 t2, .int .i64 t3, .int .i64 t4, .int .i64 t5, .bool t6][j]?) ∧ W.cell? ⟨bH, 2, none⟩ = some (.int .i64 g2)) := Lib.hid fun W hW => ⟨fun j => obj_cell (obj_below hxb hW) j, by
        have := obj_cell (obj_below hxh hW) 2
        simpa using this⟩
      have c0' := obj_cell hxb 0
      have c1' := obj_cell hxb 1
      have c2' := obj_cell hxb 2
      have c3' := obj_cell hxb 3
      have c4' := obj_cell hxb 4
      have c5' := obj_cell hxb 5
      have c6' := obj_cell hxb 6
      have h82 := obj_cell hxh 2
      simp at c0' c1' c2' c3' c4' c5' c6' h82
      clear hb9 HFDh s0 s1 s2 h80 hxb hxh HXH
      go_upto_region 11 with fail
      rw [← hw10, ← hbS]
      clear hw10 hbS
      go_wp2_with fail
      with_reducible refine Calls.mono (HCO.out _) ?_
      rintro e w11 ⟨rfl, hb11⟩
      have HB11 := Lib.hid (HB10.out.trans (hb11.mono HB10.out.size))
      have HC11 : Hid (∀ W, Below w11.heap.size w11 W → (∀ j, W.cell? ⟨bS, j, none⟩ = #[.int .i64 t0, .int .i64 t1, .int .i64 t2, .int .i64 t3, .int .i64 t4, .int .i64 t5, .bool t6][j]?) ∧ W.cell? ⟨bH, 2, none⟩ = some (.int .i64 g2)) := Lib.hid fun W hW => HCS.out W (hb11.trans (hW.mono hb11.size))
      clear c0' c1' c2' c3' c4' c5' c6' h82 hb11 HCS HCO
      go_upto_region 12 with fail
      have hcs := HC11.out _ (Below.refl _ _)
      go_region_held3 (fun W => (∀ j, W.cell? ⟨bS, j, none⟩ = #[.int .i64 t0, .int .i64 t1, .int .i64 t2, .int .i64 t3, .int .i64 t4, .int .i64 t5, .bool t6][j]?) ∧ W.cell? ⟨bH, 2, none⟩ = some (.int .i64 g2)) (first | exact hcs | exact HC11.out _ HJ.out) (first | (go_at_call 34; with_reducible refine Calls.mono (HDY.out _) ?_; rintro e x7 ⟨a7, c7, rfl, b7⟩; (have HJ : Hid (Below w11.heap.size w11 x7) := Lib.hid (by first | exact b7 | exact Below.trans ((Below.refl _ _).drew) (b7.mono (Nat.le_refl _)))); clear b7))
      have HB13 : Hid (Below w4.heap.size w4 x7) := Lib.hid (HB11.out.trans (HJ.out.mono HB11.out.size))
      go_wp2
      go_roundw
      case rel => exact ⟨k + 1, nq + (M + g2), rfl, by first | rfl | go_num, by omega, HNX, HB13⟩
      case measure => simp [RowKit.intOf]; omega
    · obtain rfl : k = m0 := by omega
      have hwt : nq = wantM r.secs r.hs := by rw [HNF.out, List.take_of_length_le (by rw [HLE.out]; exact Nat.le_refl _)]
      have hgot : sumF fl = -nq := by rw [HFS.out, hwt]
      have hnq := HWB.out r.hs.length
      rw [List.take_length, ← hwt] at hnq
      obtain ⟨ao2, cap2, e1, hcap2, hsh2⟩ := HFL.out.shape flowF
      injection e1 with e1 e2 e3
      subst e1
      have HS2 := Lib.hid hsh2
      have HGT := Lib.hid hgot
      obtain ⟨nf, hnf⟩ : ∃ n, n = fl.length := ⟨_, rfl⟩
      have HNFL := Lib.hid hnf
      rw [← hnf] at hfl hcg
      have HFB : Hid (∀ k, -480800000000000000 ≤ sumF (fl.take k) ∧ sumF (fl.take k) ≤ 0) := Lib.hid fun k => by
        have h1 := HFM.out
        have h2 : ∀ l : List Flw, (∀ f ∈ l, f.amt < 0) → sumF l ≤ 0 := fun l => by
          induction l with
          | nil => intro _; simp [sumF]
          | cons f l ih => intro h; have a := h f List.mem_cons_self; have b := ih fun g hg => h g (List.mem_cons_of_mem _ hg); simp only [sumF]; omega
        have h3 := h2 (fl.take k) fun f hf => (h1 f (List.mem_of_mem_take hf)).2.1
        have h4 := h2 (fl.drop k) fun f hf => (h1 f (List.mem_of_mem_drop hf)).2.1
        have h5 : sumF fl = sumF (fl.take k) + sumF (fl.drop k) := by rw [← sumF_app, List.take_append_drop]
        rw [hgot] at h5
        omega
      rw [← hnf]
      clear hwt hgot hsh2 hcap2 e3 e2 hnf HNF HFS HFL HWB HSH HLE
      go_wp2
      go_loopw [9, 66] (fun nv iv wx => ∃ (k : Nat) (gq : Int), nv = .int .i64 gq ∧ iv = .int .i64 (k : Int) ∧ k ≤ nf ∧ Hid (gq = -(sumF (fl.take k))) ∧ Hid (Below w4.heap.size w4 wx)) (fun _ iv _ => nf - (RowKit.intOf iv).toNat)
      case atStart => exact ⟨0, 0, rfl, rfl, by omega, Lib.hid (by simp [sumF]), HBW⟩
      case round =>
        obtain ⟨k, gq, rfl, rfl, hkf, HGQ, HBX⟩ := hrel
        by_cases hlf : k < nf
        · have hlr : k < fl.length := by rw [← HNFL.out]; exact hlf
          obtain ⟨bl, ol, rfl, hbl, hcc⟩ := HS2.out (by omega)
          have hc := hcc k hlr
          have hxm : fl[k] ∈ fl := List.getElem_mem hlr
          have htk : fl.take (k + 1) = fl.take k ++ [fl[k]] := List.take_succ_eq_append_getElem hlr
          generalize fl[k] = x at hc hxm htk
          obtain ⟨hx1, hx2, hx3⟩ := HFM.out x hxm
          have hb0 := HFB.out k
          have hb1 := HFB.out (k + 1)
          have hst : sumF (fl.take (k + 1)) = sumF (fl.take k) + x.amt := by rw [htk, sumF_app]; simp [sumF]
          have hgq := HGQ.out
          obtain ⟨y0, y1, y2, y3⟩ := x
          simp only at hx1 hx2 hx3 hst
          have g00 : wr.cell? ⟨bl, ol + k * 4, none⟩ = some (.int .i64 y0) := (HBX.out.cell (p := ⟨bl, ol + k * 4, none⟩) hbl).trans (hc 0 (by omega))
          have g01 : wr.cell? ⟨bl, ol + k * 4 + 1, none⟩ = some (.int .i64 y1) := (HBX.out.cell (p := ⟨bl, ol + k * 4 + 1, none⟩) hbl).trans (hc 1 (by omega))
          have g02 : wr.cell? ⟨bl, ol + k * 4 + 2, none⟩ = some (.int .i64 y2) := (HBX.out.cell (p := ⟨bl, ol + k * 4 + 2, none⟩) hbl).trans (hc 2 (by omega))
          have g03 : wr.cell? ⟨bl, ol + k * 4 + 3, none⟩ = some (.int .i64 y3) := (HBX.out.cell (p := ⟨bl, ol + k * 4 + 3, none⟩) hbl).trans (hc 3 (by omega))
          have HB8 := Lib.hid (HBX.out.alloc HBX.out.size (.cells #[.int .i64 y0, .int .i64 y1, .int .i64 y2, .int .i64 y3] 70))
          have HNX : Hid (gq - y1 = -(sumF (fl.take (k + 1)))) := Lib.hid (by omega)
          have hws : IntKind.i64.wrap (gq - y1) = gq - y1 := IntWalk.i64_in _ (by omega)
          have hwk : IntKind.i64.wrap ((k : Int) + 1) = (k : Int) + 1 := IntWalk.i64_in _ (by omega)
          have hk0 : (0 : Int) ≤ (k : Int) := by omega
          have hk1 : (k : Int) < (nf : Int) := by omega
          have hlt0 : ¬ (0 ≤ y1) := by omega
          subst hx3
          clear hcc hc hxm htk hb0 hb1 hst hgq hlr HGQ
          have hday := hx1
          have hd4 : ¬ (4 < y0.tmod 7) := by
            rcases Int.lt_or_le y0 0 with h | h
            · have e1 := Int.neg_tmod (-y0) 7
              rw [Int.neg_neg, Int.tmod_eq_emod_of_nonneg (show 0 ≤ -y0 by omega)] at e1
              omega
            · rw [Int.tmod_eq_emod_of_nonneg h]; omega
          have hd5 : ¬ (4 < y0 % 7) := by omega
          clear hx1 hday
          go_wp2
          go_roundw
          case rel => exact ⟨k + 1, gq - y1, rfl, by first | rfl | go_num, by omega, HNX, HB8⟩
          case measure => simp [RowKit.intOf]; omega
        · obtain rfl : k = nf := by omega
          have hge : gq = nq := by rw [HGQ.out, HNFL.out, List.take_length, HGT.out]; omega
          subst hge
          clear HGQ HFB HFM HS2 hnq
          go_wp2_with fail
          refine (HSN.out _).mono ?_
          rintro e w12 ⟨rfl, hb12⟩
          have HE := Lib.hid (HFIN.out _ (HRG.out _ (HB4.out.trans ((HBX.out.trans (hb12.mono HBX.out.size)).mono HB4.out.size))).si)
          clear hb12
          go_wp2
          go_ret
          exact ⟨rfl, HE.out⟩

end Go.Proofs.Ytblidmkkbcobgaa
