/- A posting and the one that turns it leave all balances as they were, and turning twice leads back: for every tape. -/
import Derived.Test.YtoelidndnajedabLgBaM
import Derived.Test.YtoelidndnajedabLgU
import Derived.Test.YtoelidndnajedabLgH
set_option linter.unusedSimpArgs false
set_option linter.unusedVariables false
namespace Go.Proofs.Ytoelidndnajedab
open Go.RowKit Go.Lib Go.Proofs Go.Maps

theorem bal_neq_same (x y : Int) (W : World) : (binOp .neq 33 (.agg #[.int .i64 x, .int .i64 y]) (.agg #[.int .i64 x, .int .i64 y])).run Try.prog W = .ok (.bool false) W := by
  rw [run_neq_struct]
  simp [go_sem]

set_option maxHeartbeats 4000000 in
theorem rgListedSame_same (ps : List Bal) (hlen : ps.length ≤ 1000000) (u v : Value) (w : World) (hu : ListAt balC 2 w u ps) (hv : ListAt balC 2 w v ps) :
    Calls Try.prog 18 #[u, v] w fun e w' => e = .returned (.bool true) ∧ Below w.heap.size w w' := by
  obtain ⟨ao, cap, rfl, hcap, hc⟩ := hu.shape balF
  obtain ⟨ao2, cap2, rfl, hcap2, hc2⟩ := hv.shape balF
  obtain ⟨n, hn⟩ : ∃ n, n = ps.length := ⟨_, rfl⟩
  have HN := Lib.hid hn
  have HC := Lib.hid hc
  have HC2 := Lib.hid hc2
  rw [← hn] at hlen hcap hcap2 ⊢
  clear hn hu hv hc hc2
  go_enter Try.func18, Try.ntmps18
  go_wp2
  go_loopw [13] (fun i wr => ∃ k : Nat, i = .int .i64 k ∧ k ≤ n ∧ Hid (Below w.heap.size w wr)) (fun i _ => n - (RowKit.intOf i).toNat)
  case atStart => exact ⟨0, rfl, by omega, Lib.hid (Below.refl _ _)⟩
  case round =>
    obtain ⟨k, rfl, hkn, HB⟩ := hrel
    by_cases hlt : k < n
    · have hlx : k < ps.length := by rw [← HN.out]; exact hlt
      obtain ⟨b, o, rfl, hb, hcc⟩ := HC.out (by omega)
      obtain ⟨b2, o2, rfl, hb2, hcc2⟩ := HC2.out (by omega)
      have hcell := fun j (hj : j < 2) => (HB.out.cell (p := ⟨b, o + k * 2 + j, none⟩) hb).trans (hcc k hlx j hj)
      have hcell2 := fun j (hj : j < 2) => (HB.out.cell (p := ⟨b2, o2 + k * 2 + j, none⟩) hb2).trans (hcc2 k hlx j hj)
      generalize ps[k] = x at *
      obtain ⟨d, r⟩ := x
      have c0 : wr.cell? ⟨b, o + k * 2, none⟩ = some (.int .i64 d) := hcell 0 (by omega)
      have c1 : wr.cell? ⟨b, o + k * 2 + 1, none⟩ = some (.int .i64 r) := hcell 1 (by omega)
      have e0 : wr.cell? ⟨b2, o2 + k * 2, none⟩ = some (.int .i64 d) := hcell2 0 (by omega)
      have e1 : wr.cell? ⟨b2, o2 + k * 2 + 1, none⟩ = some (.int .i64 r) := hcell2 1 (by omega)
      have hk0 : (0 : Int) ≤ (k : Int) := by omega
      have hk1 : (k : Int) < (n : Int) := by omega
      have hne := bal_neq_same d r
      have HB2 : Hid (∀ q, Below w.heap.size w (wr.drewN q)) := Lib.hid fun q => below_drewN HB.out q
      clear hcell hcell2 hcc hcc2 HC HC2
      go_wp2
      go_quiet (fail)
      go_wp2
      go_roundw
      case rel => exact ⟨k + 1, by first | rfl | go_num, by omega, Lib.hid (HB2.out _)⟩
      case measure => simp [RowKit.intOf]; omega
    · obtain rfl : k = n := by omega
      clear HC HC2
      go_wp2
      go_ret
      exact ⟨rfl, HB.out⟩

set_option maxRecDepth 100000 in
set_option maxHeartbeats 32000000 in
theorem lgtu_any (v : Value) (n : Nat) (w : World) (hi : IntsAt w v n w.heap.size) (hn : n ≤ 9223372036854775807) :
    Calls Try.prog 6 #[v] w fun e w' => e = .returned (.bool true) ∧ Below w.heap.size w w' := by
  have HNEW := Lib.hid (sNew_any v n w hi hn)
  have HSN := Lib.hid sane40_true
  clear hi hn
  go_enter Try.func6, Try.ntmps6
  go_wp2_with fail
  refine (HNEW.out).mono ?_
  rintro e w1 ⟨rfl, t1, b1⟩
  obtain ⟨tb, htb⟩ : ∃ tb, tb = w.heap.size := ⟨_, rfl⟩
  rw [← htb] at t1 ⊢
  have HLG := Lib.hid (sLedger_any tb 8 2 800 w1 t1 (by omega) (by omega) (by omega))
  have HW1 := Lib.hid b1
  have HTB := Lib.hid htb
  clear t1 b1 HNEW htb
  go_wp2_with fail
  refine (HLG.out).mono ?_
  rintro e w2 ⟨l, lv, rfl, hin, hl8, hl, hsi⟩
  have HB2 := Lib.hid ((HW1.out).grown hsi.old HW1.out.size (fun q e => by injection e with e; rw [← e, ← HTB.out]; exact Nat.le_refl _))
  obtain ⟨av, cv, rfl, hcap, -⟩ := PstsAt.open hl
  have HIN := Lib.hid hin
  have HOK := Lib.hid hin.ok
  have HSRC := Lib.hid hsi.src
  obtain ⟨nl, hnl⟩ : ∃ k, k = l.length := ⟨_, rfl⟩
  have HNL := Lib.hid hnl
  rw [← hnl]
  rw [← hnl] at hl hcap
  have hnl4 : nl ≤ 8 := by rw [hnl]; omega
  obtain ⟨bL, hbL⟩ : ∃ x, x = w2.heap.size := ⟨_, rfl⟩
  have HNE : Hid (bL ≠ tb) := Lib.hid (by rw [hbL]; have := hsi.src.lt; omega)
  obtain ⟨w3, hw3⟩ : ∃ w3, w3 = w2.alloc (.cells #[.slice av nl cv] 28) := ⟨_, rfl⟩
  have HX3 : Hid (w3.heap[bL]? = some (.cells #[.slice av nl cv] 28 (0, 0))) := Lib.hid (by rw [hw3, hbL]; exact heap_alloc_new _ _)
  have HD3 : Hid (Below w2.heap.size w2 w3) := Lib.hid (by rw [hw3]; exact below_alloc _ _)
  have HL3 : Hid (PstsAt w3 (.slice av nl cv) l) := Lib.hid (by rw [hw3]; exact ListAt.below hl (below_alloc _ _))
  have HW3 := Lib.hid hw3
  have HBL := Lib.hid hbL
  have HE3 := Lib.hid (HB2.out.trans (HD3.out.mono HB2.out.size))
  have HS3 := Lib.hid (HSRC.out.below HD3.out)
  have HPO := Lib.hid (sPosting_any tb ((nl : Int) + 1) 810 2 w3 HS3.out (by omega) (by omega) (by omega))
  have hwn : IntKind.i64.wrap ((nl : Int) + 1) = (nl : Int) + 1 := IntWalk.i64_in _ (by omega)
  clear hw3 hl hsi hin hnl hbL HLG hl8
  go_upto_region 3 with fail
  rw [← HW3.out, ← HBL.out]
  clear HW3
  have hxl := HX3.out
  have u0 := obj_cell hxl 0
  simp at u0
  clear hxl
  go_wp2_with fail
  refine (HPO.out).mono ?_
  rintro e w6 ⟨p, rfl, hpo, hpn, hpd, hpe, hsi6⟩
  have HL6 := Lib.hid (PstsAt.turn HL3.out HS3.out hsi6.old)
  have HX6 := Lib.hid (obj_turn HX3.out hsi6.old HNE.out)
  have HB6 := Lib.hid (HE3.out.grown hsi6.old HE3.out.size (fun q e => by injection e with e; rw [← e, ← HTB.out]; exact Nat.le_refl _))
  have hlast : (lastP l).day ≤ p.day := by have := HIN.out.day; rw [hpd]; omega
  have HOX : Hid (LdgOk (l ++ [p])) := Lib.hid (HOK.out.snoc (by rw [← HNL.out]; omega) hpo (by rw [hpn, HNL.out]) hlast)
  have hPO := fun W (hW : Below w6.heap.size w6 W) => lgPost_right HOK.out (by rw [← HNL.out]; omega) hpo (by rw [hpn, HNL.out]) hlast (.slice av nl cv) W (ListAt.below HL6.out hW)
  have hq : PstOk (turnP p (p.num + 1) 820) := turnP_ok hpo (by rw [hpn]; omega) (by omega)
  have hqn : (turnP p (p.num + 1) 820).num = ((l ++ [p]).length : Int) + 1 := by
    show p.num + 1 = _
    rw [hpn, List.length_append, HNL.out]; simp
  have hqd : (lastP (l ++ [p])).day ≤ (turnP p (p.num + 1) 820).day := by
    rw [lastP_snoc, hpd]; show (810 : Int) ≤ 820; omega
  obtain ⟨lp, hlp⟩ : ∃ x, x = l ++ [p] := ⟨_, rfl⟩
  have HEQ : Hid (∀ e a, ofM e (byDay 820) a (lp ++ [turnP p (p.num + 1) 820]) = ofM e (byDay 820) a l) := Lib.hid fun e a => by
    rw [hlp]
    exact ofM_turned l p (p.num + 1) 820 e a (by rw [hpd]; exact decide_eq_true (by omega)) (decide_eq_true (by omega))
  rw [← hlp] at HOX hPO hqn hqd
  have hlpn : lp.length = nl + 1 := by rw [hlp, HNL.out]; simp
  have HOQ : Hid (LdgOk (lp ++ [turnP p (p.num + 1) 820])) := Lib.hid (HOX.out.snoc (by omega) hq hqn hqd)
  have hPQ := fun W u (hu : PstsAt W u lp) => lgPost_right HOX.out (by omega) hq hqn hqd u W hu
  rw [← HNL.out] at hPO
  have hnum0 : 1 ≤ p.num ∧ p.num ≤ 20 := by rw [hpn]; omega
  obtain ⟨lq, hlq⟩ : ∃ x, x = lp ++ [turnP p (p.num + 1) 820] := ⟨_, rfl⟩
  rw [← hlq] at HOQ HEQ hPQ
  have hlqn : lq.length = lp.length + 1 := by rw [hlq]; simp
  have HPX : Hid (∀ W, Below w6.heap.size w6 W → Calls Try.prog 13 #[.agg #[.slice av nl cv], .agg (pstC p).toArray] W fun e w' => ∃ (aX : Option Addr) (nX cX : Nat), e = .returned (.tuple #[.agg #[.slice aX nX cX], .int .i64 0]) ∧ PstsAt w' (.slice aX nX cX) lp ∧ Below W.heap.size W w') := Lib.hid fun W hW => by
    refine (hPO W hW).mono ?_
    rintro e w' ⟨u, h1, h2, h3⟩
    have h4 : PstsAt w' u lp := ListAt.owns (by rw [hlpn]; exact h2)
    obtain ⟨aX, cX, rfl, -, -⟩ := PstsAt.open h4
    exact ⟨aX, _, cX, h1, h4, h3⟩
  have HPQ : Hid (∀ W u, PstsAt W u lp → Calls Try.prog 13 #[.agg #[u], .agg (pstC (turnP p (p.num + 1) 820)).toArray] W fun e w' => ∃ (aY : Option Addr) (nY cY : Nat), e = .returned (.tuple #[.agg #[.slice aY nY cY], .int .i64 0]) ∧ PstsAt w' (.slice aY nY cY) lq ∧ Below W.heap.size W w') := Lib.hid fun W u hu => by
    refine (hPQ W u hu).mono ?_
    rintro e w' ⟨u', h1, h2, h3⟩
    have h4 : PstsAt w' u' lq := ListAt.owns (by rw [hlqn]; exact h2)
    obtain ⟨aX, cX, rfl, -, -⟩ := PstsAt.open h4
    exact ⟨aX, _, cX, h1, h4, h3⟩
  clear hPO hlp hlpn hlast hpn hpd hpe hpo hsi6 u0 hq hqn hqd hPQ hlq hlqn
  obtain ⟨x0, x1, x2, x3, x4, x5, x6, x7⟩ := p
  simp only [pstC] at HPX ⊢
  simp only [pstC, turnP] at HPQ
  simp only at hnum0
  obtain ⟨w7, hw7⟩ : ∃ x, x = w6.alloc (.cells #[.int .i64 x0, .int .i64 x1, .int .i64 x2, .int .i64 x3, .int .i64 x4, .int .i64 x5, .int .i64 x6, .int .i64 x7] 37) := ⟨_, rfl⟩
  obtain ⟨bP, hbP⟩ : ∃ x, x = w6.heap.size := ⟨_, rfl⟩
  have HP7 : Hid (w7.heap[bP]? = some (.cells #[.int .i64 x0, .int .i64 x1, .int .i64 x2, .int .i64 x3, .int .i64 x4, .int .i64 x5, .int .i64 x6, .int .i64 x7] 37 (0, 0))) := Lib.hid (by rw [hw7, hbP]; exact heap_alloc_new _ _)
  have HB7 : Hid (Below w6.heap.size w6 w7) := Lib.hid (by rw [hw7]; exact below_alloc _ _)
  have HX7 := Lib.hid (obj_below HX6.out HB7.out)
  have HW7 := Lib.hid hw7
  have HBP := Lib.hid hbP
  clear hw7 hbP
  go_upto_region 4 with fail
  rw [← HW7.out, ← HBP.out]
  have hxl := HX7.out
  have hxp := HP7.out
  have u0 := obj_cell hxl 0
  have z0 := obj_cell hxp 0
  have z1 := obj_cell hxp 1
  have z2 := obj_cell hxp 2
  have z3 := obj_cell hxp 3
  have z4 := obj_cell hxp 4
  have z5 := obj_cell hxp 5
  have z6 := obj_cell hxp 6
  have z7 := obj_cell hxp 7
  simp at u0 z0 z1 z2 z3 z4 z5 z6 z7
  clear hxl hxp
  go_wp2_with fail
  refine (HPX.out _ HB7.out).mono ?_
  rintro e w8 ⟨aX, nX, cX, rfl, hlx, hb8⟩
  obtain ⟨w9, hw9⟩ : ∃ x, x = w8.alloc (.cells #[.slice aX nX cX] 28) := ⟨_, rfl⟩
  obtain ⟨bX, hbX⟩ : ∃ x, x = w8.heap.size := ⟨_, rfl⟩
  have HXX : Hid (w9.heap[bX]? = some (.cells #[.slice aX nX cX] 28 (0, 0))) := Lib.hid (by rw [hw9, hbX]; exact heap_alloc_new _ _)
  have HB9 : Hid (Below w7.heap.size w7 w9) := Lib.hid (by rw [hw9]; exact hb8.alloc hb8.size _)
  have HLX : Hid (PstsAt w9 (.slice aX nX cX) lp) := Lib.hid (by rw [hw9]; exact ListAt.below hlx (below_alloc _ _))
  have HL9 : Hid (PstsAt w9 (.slice av nl cv) l) := Lib.hid (ListAt.below (ListAt.below HL6.out HB7.out) HB9.out)
  have HXL := Lib.hid (obj_below HX7.out HB9.out)
  have HXP := Lib.hid (obj_below HP7.out HB9.out)
  have HW9 := Lib.hid hw9
  have HBX := Lib.hid hbX
  have HEND : Hid (Below w.heap.size w w9) := Lib.hid (HB6.out.trans ((HB7.out.trans (HB9.out.mono HB7.out.size)).mono HB6.out.size))
  clear hw9 hbX hlx hb8 u0 z0 z1 z2 z3 z4 z5 z6 z7 HPX HPO
  go_upto_region 5 with fail
  rw [← HW9.out, ← HBX.out]
  obtain ⟨base, hbase⟩ : ∃ base, base = w9.heap.size := ⟨_, rfl⟩
  have HBASE := Lib.hid hbase
  clear hbase
  obtain ⟨I, hJ⟩ : ∃ J, J = fun W : World => Below w9.heap.size w9 W := ⟨_, rfl⟩
  have HIO : Hid (∀ W, I W → Below w9.heap.size w9 W) := Lib.hid fun W hW => by rw [hJ] at hW; exact hW
  have HII : Hid (∀ W, Below w9.heap.size w9 W → I W) := Lib.hid fun W hW => by rw [hJ]; exact hW
  have HID : Hid (∀ W, I W → I W.drew) := Lib.hid fun W hW => HII.out _ ((HIO.out W hW).drew)
  have HI0 : Hid (I w9) := Lib.hid (HII.out _ (Below.refl _ _))
  clear hJ
  have HIA : Hid (∀ W o, I W → I (W.alloc o)) := Lib.hid fun W o hW => HII.out _ ((HIO.out W hW).alloc (HIO.out W hW).size o)
  have HCX : Hid (∀ W, I W → ∀ q, W.cell? ⟨bX, q, none⟩ = #[.slice aX nX cX][q]?) := Lib.hid fun W hW q => obj_cell (obj_below HXX.out (HIO.out W hW)) q
  have HCP : Hid (∀ W, I W → ∀ q, W.cell? ⟨bP, q, none⟩ = #[.int .i64 x0, .int .i64 x1, .int .i64 x2, .int .i64 x3, .int .i64 x4, .int .i64 x5, .int .i64 x6, .int .i64 x7][q]?) := Lib.hid fun W hW q => obj_cell (obj_below HXP.out (HIO.out W hW)) q
  have HBOX : Hid (∀ W, I W → LBox base W.heap.size (W.alloc (.cells #[.slice none 0 0] 28))) := Lib.hid fun W hW => ⟨by rw [HBASE.out]; exact (HIO.out W hW).size, _, _, _, heap_alloc_new _ _⟩
  have HIP : Hid (∀ W (bE : Nat) (a : Option Addr) (n c : Nat), I W → base ≤ bE → I (W.setCell ⟨bE, 0, none⟩ (.slice a n c))) := Lib.hid fun W bE a n c hW hb =>
    HII.out _ ((HIO.out W hW).grown (setCell_grown _ _) (HIO.out W hW).size (fun q e => by injection e with e; rw [← e, ← HBASE.out]; exact hb))
  have HTU : Hid (∀ W, I W → Calls Try.prog 17 #[.agg #[.int .i64 x0, .int .i64 x1, .int .i64 x2, .int .i64 x3, .int .i64 x4, .int .i64 x5, .int .i64 x6, .int .i64 x7], .int .i64 (x0 + 1), .int .i64 820] W fun e w' => e = .returned (.agg #[.int .i64 (x0 + 1), .int .i64 820, .int .i64 x2, .int .i64 x4, .int .i64 x3, .int .i64 x5, .int .i64 x6, .int .i64 x7]) ∧ I w' ∧ Below W.heap.size W w') := Lib.hid fun W hW =>
    (lgTurn_any ⟨x0, x1, x2, x3, x4, x5, x6, x7⟩ (x0 + 1) 820 W).mono fun e w' g => ⟨g.1, HII.out _ ((HIO.out W hW).trans (g.2.mono (HIO.out W hW).size)), g.2⟩
  have HPO : Hid (∀ W, I W → Calls Try.prog 13 #[.agg #[.slice aX nX cX], .agg #[.int .i64 (x0 + 1), .int .i64 820, .int .i64 x2, .int .i64 x4, .int .i64 x3, .int .i64 x5, .int .i64 x6, .int .i64 x7]] W fun e w' => ∃ (aY : Option Addr) (nY cY : Nat), e = .returned (.tuple #[.agg #[.slice aY nY cY], .int .i64 0]) ∧ PstsAt w' (.slice aY nY cY) lq ∧ I w' ∧ Below W.heap.size W w') := Lib.hid fun W hW => by
    refine (HPQ.out W _ (ListAt.below HLX.out (HIO.out W hW))).mono ?_
    rintro e w' ⟨a1, a2, a3, h1, h2, h3⟩
    exact ⟨a1, a2, a3, h1, h2, HII.out _ ((HIO.out W hW).trans (h3.mono (HIO.out W hW).size)), h3⟩
  have hwq : IntKind.i64.wrap (x0 + 1) = x0 + 1 := IntWalk.i64_in _ (by omega)
  have egT := enters_of Try.func17 (by kernel_rfl) rfl
  have egP := enters_of Try.func13 (by kernel_rfl) rfl
  obtain ⟨P, hP⟩ : ∃ P : Nat → Value → World → Prop, P = fun j v W => match j with | 0 => (v = .agg #[.slice aX nX cX]) | 1 => (v = .agg #[.int .i64 x0, .int .i64 x1, .int .i64 x2, .int .i64 x3, .int .i64 x4, .int .i64 x5, .int .i64 x6, .int .i64 x7]) | 2 => (v = .pointer (some ⟨bP, 0, none⟩)) | 3 => (v = .int .i64 x0) | 4 => (v = .int .i64 (x0 + 1)) | 5 => (v = .agg #[.int .i64 (x0 + 1), .int .i64 820, .int .i64 x2, .int .i64 x4, .int .i64 x3, .int .i64 x5, .int .i64 x6, .int .i64 x7]) | 6 => (∃ aY nY cY, v = .tuple #[.agg #[.slice aY nY cY], .int .i64 0] ∧ PstsAt W (.slice aY nY cY) lq) | 7 => (∃ aY nY cY, v = .tuple #[.agg #[.slice aY nY cY], .int .i64 0] ∧ PstsAt W (.slice aY nY cY) lq) | 8 => (∃ aY nY cY, v = .agg #[.slice aY nY cY] ∧ PstsAt W (.slice aY nY cY) lq) | 9 => (v = .int .i64 0) | 10 => (∃ bE, v = .pointer (some ⟨bE, 0, none⟩) ∧ LBox base bE W) | 12 => (v = .int .i64 0) | _ => True := ⟨_, rfl⟩
  have HPI0 : Hid (∀ v W, P 0 v W ↔ (v = .agg #[.slice aX nX cX])) := Lib.hid fun v W => by rw [hP] <;> exact Iff.rfl
  have HPI1 : Hid (∀ v W, P 1 v W ↔ (v = .agg #[.int .i64 x0, .int .i64 x1, .int .i64 x2, .int .i64 x3, .int .i64 x4, .int .i64 x5, .int .i64 x6, .int .i64 x7])) := Lib.hid fun v W => by rw [hP] <;> exact Iff.rfl
  have HPI2 : Hid (∀ v W, P 2 v W ↔ (v = .pointer (some ⟨bP, 0, none⟩))) := Lib.hid fun v W => by rw [hP] <;> exact Iff.rfl
  have HPI3 : Hid (∀ v W, P 3 v W ↔ (v = .int .i64 x0)) := Lib.hid fun v W => by rw [hP] <;> exact Iff.rfl
  have HPI4 : Hid (∀ v W, P 4 v W ↔ (v = .int .i64 (x0 + 1))) := Lib.hid fun v W => by rw [hP] <;> exact Iff.rfl
  have HPI5 : Hid (∀ v W, P 5 v W ↔ (v = .agg #[.int .i64 (x0 + 1), .int .i64 820, .int .i64 x2, .int .i64 x4, .int .i64 x3, .int .i64 x5, .int .i64 x6, .int .i64 x7])) := Lib.hid fun v W => by rw [hP] <;> exact Iff.rfl
  have HPI6 : Hid (∀ v W, P 6 v W ↔ (∃ aY nY cY, v = .tuple #[.agg #[.slice aY nY cY], .int .i64 0] ∧ PstsAt W (.slice aY nY cY) lq)) := Lib.hid fun v W => by rw [hP] <;> exact Iff.rfl
  have HPI7 : Hid (∀ v W, P 7 v W ↔ (∃ aY nY cY, v = .tuple #[.agg #[.slice aY nY cY], .int .i64 0] ∧ PstsAt W (.slice aY nY cY) lq)) := Lib.hid fun v W => by rw [hP] <;> exact Iff.rfl
  have HPI8 : Hid (∀ v W, P 8 v W ↔ (∃ aY nY cY, v = .agg #[.slice aY nY cY] ∧ PstsAt W (.slice aY nY cY) lq)) := Lib.hid fun v W => by rw [hP] <;> exact Iff.rfl
  have HPI9 : Hid (∀ v W, P 9 v W ↔ (v = .int .i64 0)) := Lib.hid fun v W => by rw [hP] <;> exact Iff.rfl
  have HPI10 : Hid (∀ v W, P 10 v W ↔ (∃ bE, v = .pointer (some ⟨bE, 0, none⟩) ∧ LBox base bE W)) := Lib.hid fun v W => by rw [hP] <;> exact Iff.rfl
  have HPI12 : Hid (∀ v W, P 12 v W ↔ (v = .int .i64 0)) := Lib.hid fun v W => by rw [hP] <;> exact Iff.rfl
  have HKP : Hid (∀ (j : Nat) v W W', Below W.heap.size W W' → P j v W → P j v W') := Lib.hid (by
    rw [hP]
    intro j v W W' hb h
    match j, h with
    | 0, h => exact h
    | 1, h => exact h
    | 2, h => exact h
    | 3, h => exact h
    | 4, h => exact h
    | 5, h => exact h
    | 6, ⟨aY, nY, cY, e, s0⟩ => exact ⟨aY, nY, cY, e, ListAt.below s0 hb⟩
    | 7, ⟨aY, nY, cY, e, s0⟩ => exact ⟨aY, nY, cY, e, ListAt.below s0 hb⟩
    | 8, ⟨aY, nY, cY, e, s0⟩ => exact ⟨aY, nY, cY, e, ListAt.below s0 hb⟩
    | 9, h => exact h
    | 10, ⟨bE, e, s0⟩ => exact ⟨bE, e, s0.below hb⟩
    | 11, _ => trivial
    | 12, h => exact h
    | j + 13, _ => trivial)
  have HKL : Hid (∀ (j : Nat) v W W' b0, Lone W b0 → W.grownBy W' (some b0) → (∀ b, LBox base b W → LBox base b W') → P j v W → P j v W') := Lib.hid (by
    rw [hP]
    intro j v W W' b0 hl hg hke h
    match j, h with
    | 0, h => exact h
    | 1, h => exact h
    | 2, h => exact h
    | 3, h => exact h
    | 4, h => exact h
    | 5, h => exact h
    | 6, ⟨aY, nY, cY, e, s0⟩ => exact ⟨aY, nY, cY, e, PstsAt.keep s0 hl hg⟩
    | 7, ⟨aY, nY, cY, e, s0⟩ => exact ⟨aY, nY, cY, e, PstsAt.keep s0 hl hg⟩
    | 8, ⟨aY, nY, cY, e, s0⟩ => exact ⟨aY, nY, cY, e, PstsAt.keep s0 hl hg⟩
    | 9, h => exact h
    | 10, ⟨bE, e, s0⟩ => exact ⟨bE, e, hke _ s0⟩
    | 11, _ => trivial
    | 12, h => exact h
    | j + 13, _ => trivial)
  clear hP
  go_cut [8, 9] (fun pv ev wx => ∃ (bE : Nat) (aY : Option Addr) (nY cY : Nat), pv = .pointer (some ⟨bE, 0, none⟩) ∧ ev = .int .i64 0 ∧ Hid (I wx) ∧ Hid (wx.heap[bE]? = some (.cells #[.slice aY nY cY] 28 (0, 0))) ∧ Hid (PstsAt wx (.slice aY nY cY) lq))
  case first =>
    refine wp_region_store [28, 29, 30, 31, 32, 33, 34, 27, 35, 36, 8, 9] (slotS [28, 29, 30, 31, 32, 33, 34, 27, 35, 36, 8, 9999, 9]) (readsS [28, 29, 30, 31, 32, 33, 34, 27, 35, 36, 8, 9999, 9]) (RP [28, 29, 30, 31, 32, 33, 34, 27, 35, 36, 8, 9999, 9] P) I (fun f W => ∃ (bE : Nat) (aY : Option Addr) (nY cY : Nat), f 8 = .pointer (some ⟨bE, 0, none⟩) ∧ I W ∧ W.heap[bE]? = some (.cells #[.slice aY nY cY] 28 (0, 0)) ∧ PstsAt W (.slice aY nY cY) lq) 11 8 [9, 12] (by decide) (by kernel_rfl) (by kernel_rfl) (by kernel_rfl) (by kernel_rfl) (HID.out _ HI0.out) (fun j f q v W hq h => RP.upd hq h) ?_ ?_ ?_ ?_
    case refine_1 =>
      intro iq hiq hne f W hIW hdep0
      have hiq' : iq < 13 := hiq
      have hdep : ∀ j, j ≠ 11 → depB _ iq j = true → P j (f (slotS [28, 29, 30, 31, 32, 33, 34, 27, 35, 36, 8, 9999, 9] j)) W := hdep0
      clear hdep0
      generalize ha1 : putsL _ [28, 29, 30, 31, 32, 33, 34, 27, 35, 36, 8, 9] f = a1
      match iq, hiq', hne, hdep with
      | 0, _, _, hdep0 =>
        have E6 : a1.tmps[6]?.getD undef = .pointer (some ⟨bX, 0, none⟩) := by rw [← ha1]; exact (putsL_out2 _ _ _ _ (by decide)).trans rfl
        have v0 : W.cell? ⟨bX, 0, none⟩ = some (.slice aX nX cX) := by simpa using HCX.out W hIW 0
        exact wpOp_val rfl rfl (v := .agg #[.slice aX nX cX]) (w' := W) (by simp [execOp, go_sem, E6, v0]) ⟨hIW, fun _ h => h, _, by decide, rfl, RP.set ((HPI0.out _ _).2 rfl)⟩
      | 1, _, _, hdep0 =>
        have E5 : a1.tmps[5]?.getD undef = .pointer (some ⟨bP, 0, none⟩) := by rw [← ha1]; exact (putsL_out2 _ _ _ _ (by decide)).trans rfl
        have v0 : W.cell? ⟨bP, 0, none⟩ = some (.int .i64 x0) := by simpa using HCP.out W hIW 0
        have v1 : W.cell? ⟨bP, 1, none⟩ = some (.int .i64 x1) := by simpa using HCP.out W hIW 1
        have v2 : W.cell? ⟨bP, 2, none⟩ = some (.int .i64 x2) := by simpa using HCP.out W hIW 2
        have v3 : W.cell? ⟨bP, 3, none⟩ = some (.int .i64 x3) := by simpa using HCP.out W hIW 3
        have v4 : W.cell? ⟨bP, 4, none⟩ = some (.int .i64 x4) := by simpa using HCP.out W hIW 4
        have v5 : W.cell? ⟨bP, 5, none⟩ = some (.int .i64 x5) := by simpa using HCP.out W hIW 5
        have v6 : W.cell? ⟨bP, 6, none⟩ = some (.int .i64 x6) := by simpa using HCP.out W hIW 6
        have v7 : W.cell? ⟨bP, 7, none⟩ = some (.int .i64 x7) := by simpa using HCP.out W hIW 7
        exact wpOp_val rfl rfl (v := .agg #[.int .i64 x0, .int .i64 x1, .int .i64 x2, .int .i64 x3, .int .i64 x4, .int .i64 x5, .int .i64 x6, .int .i64 x7]) (w' := W) (by simp [execOp, go_sem, E5, v0, v1, v2, v3, v4, v5, v6, v7]) ⟨hIW, fun _ h => h, _, by decide, rfl, RP.set ((HPI1.out _ _).2 rfl)⟩
      | 2, _, _, hdep0 =>
        have E5 : a1.tmps[5]?.getD undef = .pointer (some ⟨bP, 0, none⟩) := by rw [← ha1]; exact (putsL_out2 _ _ _ _ (by decide)).trans rfl
        exact wpOp_val rfl rfl (v := .pointer (some ⟨bP, 0, none⟩)) (w' := W) (by simp [execOp, go_sem, E5]) ⟨hIW, fun _ h => h, _, by decide, rfl, RP.set ((HPI2.out _ _).2 rfl)⟩
      | 3, _, _, hdep0 =>
        have hd2 := (HPI2.out _ _).1 (hdep0 2 (by decide) (by kernel_rfl))
        have E30 : a1.tmps[30]?.getD undef = .pointer (some ⟨bP, 0, none⟩) := by rw [← ha1]; exact (putsL_in2 _ _ _ _ (by decide) (show 30 < 67 from by decide)).trans hd2
        have v0 : W.cell? ⟨bP, 0, none⟩ = some (.int .i64 x0) := by simpa using HCP.out W hIW 0
        exact wpOp_val rfl rfl (v := .int .i64 x0) (w' := W) (by simp [execOp, go_sem, E30, v0]) ⟨hIW, fun _ h => h, _, by decide, rfl, RP.set ((HPI3.out _ _).2 rfl)⟩
      | 4, _, _, hdep0 =>
        have hd3 := (HPI3.out _ _).1 (hdep0 3 (by decide) (by kernel_rfl))
        have E31 : a1.tmps[31]?.getD undef = .int .i64 x0 := by rw [← ha1]; exact (putsL_in2 _ _ _ _ (by decide) (show 31 < 67 from by decide)).trans hd3
        exact wpOp_val rfl rfl (v := .int .i64 (x0 + 1)) (w' := W) (by simp [execOp, go_sem, E31, hwq]) ⟨hIW, fun _ h => h, _, by decide, rfl, RP.set ((HPI4.out _ _).2 rfl)⟩
      | 5, _, _, hdep0 =>
        have hd1 := (HPI1.out _ _).1 (hdep0 1 (by decide) (by kernel_rfl))
        have hd4 := (HPI4.out _ _).1 (hdep0 4 (by decide) (by kernel_rfl))
        have E29 : a1.tmps[29]?.getD undef = .agg #[.int .i64 x0, .int .i64 x1, .int .i64 x2, .int .i64 x3, .int .i64 x4, .int .i64 x5, .int .i64 x6, .int .i64 x7] := by rw [← ha1]; exact (putsL_in2 _ _ _ _ (by decide) (show 29 < 67 from by decide)).trans hd1
        have E32 : a1.tmps[32]?.getD undef = .int .i64 (x0 + 1) := by rw [← ha1]; exact (putsL_in2 _ _ _ _ (by decide) (show 32 < 67 from by decide)).trans hd4
        refine wpOp_call rfl rfl (n := 17) (vs := #[.agg #[.int .i64 x0, .int .i64 x1, .int .i64 x2, .int .i64 x3, .int .i64 x4, .int .i64 x5, .int .i64 x6, .int .i64 x7], .int .i64 (x0 + 1), .int .i64 820]) (by have := egT #[.agg #[.int .i64 x0, .int .i64 x1, .int .i64 x2, .int .i64 x3, .int .i64 x4, .int .i64 x5, .int .i64 x6, .int .i64 x7], .int .i64 (x0 + 1), .int .i64 820] W; simp [execOp, E29, E32, resolve, invoke, go_sem] <;> exact this) ((HTU.out W hIW).mono fun e w' hh => (by obtain ⟨rfl, hJ', hb'⟩ := hh; exact ⟨_, rfl, (HPI5.out _ _).2 rfl, hJ', hb'⟩ : ∃ v, e = .returned v ∧ (P 5 v w' ∧ I w' ∧ Below W.heap.size W w'))) ?_
        rintro v w' ⟨hv, hI', hb'⟩
        exact ⟨hI', fun j h => HKP.out j _ _ _ hb' h, _, by decide, rfl, RP.set hv⟩
      | 6, _, _, hdep0 =>
        have hd0 := (HPI0.out _ _).1 (hdep0 0 (by decide) (by kernel_rfl))
        have hd5 := (HPI5.out _ _).1 (hdep0 5 (by decide) (by kernel_rfl))
        have E28 : a1.tmps[28]?.getD undef = .agg #[.slice aX nX cX] := by rw [← ha1]; exact (putsL_in2 _ _ _ _ (by decide) (show 28 < 67 from by decide)).trans hd0
        have E33 : a1.tmps[33]?.getD undef = .agg #[.int .i64 (x0 + 1), .int .i64 820, .int .i64 x2, .int .i64 x4, .int .i64 x3, .int .i64 x5, .int .i64 x6, .int .i64 x7] := by rw [← ha1]; exact (putsL_in2 _ _ _ _ (by decide) (show 33 < 67 from by decide)).trans hd5
        refine wpOp_call rfl rfl (n := 13) (vs := #[.agg #[.slice aX nX cX], .agg #[.int .i64 (x0 + 1), .int .i64 820, .int .i64 x2, .int .i64 x4, .int .i64 x3, .int .i64 x5, .int .i64 x6, .int .i64 x7]]) (by have := egP #[.agg #[.slice aX nX cX], .agg #[.int .i64 (x0 + 1), .int .i64 820, .int .i64 x2, .int .i64 x4, .int .i64 x3, .int .i64 x5, .int .i64 x6, .int .i64 x7]] W; simp [execOp, E28, E33, resolve, invoke, go_sem] <;> exact this) ((HPO.out W hIW).mono fun e w' hh => (by obtain ⟨aY, nY, cY, rfl, p0, hJ', hb'⟩ := hh; exact ⟨_, rfl, (HPI6.out _ _).2 ⟨_, _, _, rfl, p0⟩, hJ', hb'⟩ : ∃ v, e = .returned v ∧ (P 6 v w' ∧ I w' ∧ Below W.heap.size W w'))) ?_
        rintro v w' ⟨hv, hI', hb'⟩
        exact ⟨hI', fun j h => HKP.out j _ _ _ hb' h, _, by decide, rfl, RP.set hv⟩
      | 7, _, _, hdep0 =>
        have hd6 := (HPI6.out _ _).1 (hdep0 6 (by decide) (by kernel_rfl))
        obtain ⟨aY, nY, cY, q6, r6_0⟩ := hd6
        have E34 : a1.tmps[34]?.getD undef = .tuple #[.agg #[.slice aY nY cY], .int .i64 0] := by rw [← ha1]; exact (putsL_in2 _ _ _ _ (by decide) (show 34 < 67 from by decide)).trans q6
        exact wpOp_val rfl rfl (v := .tuple #[.agg #[.slice aY nY cY], .int .i64 0]) (w' := W) (by simp [execOp, go_sem, E34]) ⟨hIW, fun _ h => h, _, by decide, rfl, RP.set ((HPI7.out _ _).2 ⟨_, _, _, rfl, r6_0⟩)⟩
      | 8, _, _, hdep0 =>
        have hd7 := (HPI7.out _ _).1 (hdep0 7 (by decide) (by kernel_rfl))
        obtain ⟨aY, nY, cY, q7, r7_0⟩ := hd7
        have E27 : a1.tmps[27]?.getD undef = .tuple #[.agg #[.slice aY nY cY], .int .i64 0] := by rw [← ha1]; exact (putsL_in2 _ _ _ _ (by decide) (show 27 < 67 from by decide)).trans q7
        exact wpOp_val rfl rfl (v := .agg #[.slice aY nY cY]) (w' := W) (by simp [execOp, go_sem, E27]) ⟨hIW, fun _ h => h, _, by decide, rfl, RP.set ((HPI8.out _ _).2 ⟨_, _, _, rfl, r7_0⟩)⟩
      | 9, _, _, hdep0 =>
        have hd7 := (HPI7.out _ _).1 (hdep0 7 (by decide) (by kernel_rfl))
        obtain ⟨aY, nY, cY, q7, r7_0⟩ := hd7
        have E27 : a1.tmps[27]?.getD undef = .tuple #[.agg #[.slice aY nY cY], .int .i64 0] := by rw [← ha1]; exact (putsL_in2 _ _ _ _ (by decide) (show 27 < 67 from by decide)).trans q7
        exact wpOp_val rfl rfl (v := .int .i64 0) (w' := W) (by simp [execOp, go_sem, E27]) ⟨hIW, fun _ h => h, _, by decide, rfl, RP.set ((HPI9.out _ _).2 rfl)⟩
      | 10, _, _, hdep0 =>
        exact wpOp_val rfl rfl (v := .pointer (some ⟨W.heap.size, 0, none⟩)) (w' := W.alloc (.cells #[.slice none 0 0] 28)) (by simp [execOp, go_sem]) ⟨(HIA.out _ _ hIW), fun j h => HKP.out j _ _ _ (below_alloc _ _) h, _, by decide, rfl, RP.set ((HPI10.out _ _).2 ⟨_, rfl, HBOX.out _ hIW⟩)⟩
      | 11, _, hne, _ => exact absurd rfl hne
      | 12, _, _, hdep0 =>
        have hd9 := (HPI9.out _ _).1 (hdep0 9 (by decide) (by kernel_rfl))
        have E36 : a1.tmps[36]?.getD undef = .int .i64 0 := by rw [← ha1]; exact (putsL_in2 _ _ _ _ (by decide) (show 36 < 67 from by decide)).trans hd9
        exact wpOp_val rfl rfl (v := .int .i64 0) (w' := W) (by simp [execOp, go_sem, E36]) ⟨hIW, fun _ h => h, _, by decide, rfl, RP.set ((HPI12.out _ _).2 rfl)⟩
      | iq + 13, h, _, _ => exact absurd h (by omega)
    case refine_2 =>
      intro iq hiq hfr f W hI1 hdep0
      have hdep : ∀ j, j ≠ 11 → depB _ iq j = true → P j (f (slotS [28, 29, 30, 31, 32, 33, 34, 27, 35, 36, 8, 9999, 9] j)) W := hdep0
      clear hdep0
      generalize ha1 : putsL _ [28, 29, 30, 31, 32, 33, 34, 27, 35, 36, 8, 9] f = a1
      simp only [List.mem_cons, List.mem_nil_iff, or_false] at hfr
      rcases hfr with rfl | rfl
      · have hdep0 := hdep
        have hd7 := (HPI7.out _ _).1 (hdep0 7 (by decide) (by kernel_rfl))
        obtain ⟨aY, nY, cY, q7, r7_0⟩ := hd7
        have E27 : a1.tmps[27]?.getD undef = .tuple #[.agg #[.slice aY nY cY], .int .i64 0] := by rw [← ha1]; exact (putsL_in2 _ _ _ _ (by decide) (show 27 < 67 from by decide)).trans q7
        exact wpOp_val rfl rfl (v := .int .i64 0) (w' := W) (by simp [execOp, go_sem, E27]) ⟨rfl, _, by decide, rfl, RP.set ((HPI9.out _ _).2 rfl), (by obtain ⟨bE, aY, nY, cY, h1, h2⟩ := hI1; exact ⟨bE, aY, nY, cY, (updF_other f _ (by decide)).trans h1, h2⟩)⟩
      · have hdep0 := hdep
        have hd9 := (HPI9.out _ _).1 (hdep0 9 (by decide) (by kernel_rfl))
        have E36 : a1.tmps[36]?.getD undef = .int .i64 0 := by rw [← ha1]; exact (putsL_in2 _ _ _ _ (by decide) (show 36 < 67 from by decide)).trans hd9
        exact wpOp_val rfl rfl (v := .int .i64 0) (w' := W) (by simp [execOp, go_sem, E36]) ⟨rfl, _, by decide, rfl, RP.set ((HPI12.out _ _).2 rfl), (by obtain ⟨bE, aY, nY, cY, h1, h2⟩ := hI1; exact ⟨bE, aY, nY, cY, (updF_other f _ (by decide)).trans h1, h2⟩)⟩
    case refine_3 =>
      intro f W hIW hdep0
      have hdep : ∀ j, j < 13 → j ≠ 11 → ([9, 12] : List Nat).contains j = false → P j (f (slotS [28, 29, 30, 31, 32, 33, 34, 27, 35, 36, 8, 9999, 9] j)) W := hdep0
      have HRP : Hid (∀ j W', (∀ v, P j v W → P j v W') → RP [28, 29, 30, 31, 32, 33, 34, 27, 35, 36, 8, 9999, 9] P j f W → RP [28, 29, 30, 31, 32, 33, 34, 27, 35, 36, 8, 9999, 9] P j f W') := Lib.hid fun j W' h1 h2 => h1 _ h2
      clear hdep0
      generalize ha1 : putsL _ [28, 29, 30, 31, 32, 33, 34, 27, 35, 36, 8, 9] f = a1
      obtain ⟨bE, q10, r10_0⟩ := ((HPI10.out _ _).1 (hdep 10 (by decide) (by decide) (by decide)))
      have E8 : a1.tmps[8]?.getD undef = .pointer (some ⟨bE, 0, none⟩) := by rw [← ha1]; exact (putsL_in2 _ _ _ _ (by decide) (show 8 < 67 from by decide)).trans q10
      obtain ⟨aY, nY, cY, q8, r8_0⟩ := ((HPI8.out _ _).1 (hdep 8 (by decide) (by decide) (by decide)))
      have E35 : a1.tmps[35]?.getD undef = .agg #[.slice aY nY cY] := by rw [← ha1]; exact (putsL_in2 _ _ _ _ (by decide) (show 35 < 67 from by decide)).trans q8
      obtain ⟨hbE1, z0, z1, z2, hbE2⟩ := r10_0
      have p0 := obj_cell hbE2 0
      have f0 := obj_free hbE2 0
      simp at p0
      have e12 : f 8 = .pointer (some ⟨bE, 0, none⟩) := q10
      have hg : W.grownBy (W.setCell ⟨bE, 0, none⟩ (.slice aY nY cY)) (some bE) := setCell_grown _ _
      have hl := lone_ldg hbE2
      have hset := obj_set hbE2 0 (.slice aY nY cY)
      simp only [List.setIfInBounds_toArray, List.set_cons_zero] at hset
      exact wpOp_skip rfl rfl (w' := W.setCell ⟨bE, 0, none⟩ (.slice aY nY cY)) (by simp [execOp, go_sem, E8, E35, p0, f0]) ⟨rfl, ⟨bE, aY, nY, cY, e12, HIP.out _ _ _ _ _ hIW hbE1, hset, r8_0.keep hl hg⟩, fun j h => HRP.out j _ (fun v h => HKL.out j v W _ bE hl hg (fun b hb => hb.put hbE2) h) h⟩
    case refine_4 =>
      intro f W hI1 hR
      have h9 := (HPI12.out _ _).1 (hR 12 (show 12 < 13 from by decide) (by decide))
      simp only [putsL, List.foldl_cons, List.foldl_nil, Act.put, List.setIfInBounds_toArray, List.set_cons_zero, List.set_cons_succ]
      obtain ⟨bE, aY, nY, cY, h1, h2, h3, h4⟩ := hI1
      go_wp2
      go_meet
      exact ⟨bE, aY, nY, cY, (by first | exact h1 | rfl), (by first | exact h9 | rfl), Lib.hid h2, Lib.hid h3, Lib.hid h4⟩
  case rest =>
  obtain ⟨bE, aY, nY, cY, rfl, rfl, HI9, HBE, HLY⟩ := hcut
  have HBA := Lib.hid (HIO.out _ HI9.out)
  obtain ⟨wa, hwa⟩ : ∃ x, x = wc := ⟨_, rfl⟩
  rw [← hwa] at HBE HLY HBA ⊢
  clear hwa HI9 HPO HTU HIP HBOX HCP HCX HIA HI0 HID HII HIO HPQ
  have HPA := Lib.hid (obj_below HXP.out HBA.out)
  have HLA := Lib.hid (obj_below HXL.out HBA.out)
  go_upto_region 6 with fail
  obtain ⟨J, hJ⟩ : ∃ J, J = fun W : World => Below wa.heap.size wa W := ⟨_, rfl⟩
  have HJO : Hid (∀ W, J W → Below wa.heap.size wa W) := Lib.hid fun W hW => by rw [hJ] at hW; exact hW
  have HJI : Hid (∀ W, Below wa.heap.size wa W → J W) := Lib.hid fun W hW => by rw [hJ]; exact hW
  have HJD : Hid (∀ W, J W → J W.drew) := Lib.hid fun W hW => HJI.out _ ((HJO.out W hW).drew)
  have HJ0 : Hid (J wa) := Lib.hid (HJI.out _ (Below.refl _ _))
  clear hJ
  have HCP : Hid (∀ W, J W → ∀ q, W.cell? ⟨bP, q, none⟩ = #[.int .i64 x0, .int .i64 x1, .int .i64 x2, .int .i64 x3, .int .i64 x4, .int .i64 x5, .int .i64 x6, .int .i64 x7][q]?) := Lib.hid fun W hW q => obj_cell (obj_below HPA.out (HJO.out W hW)) q
  have HT1 : Hid (∀ W, J W → Calls Try.prog 17 #[.agg #[.int .i64 x0, .int .i64 x1, .int .i64 x2, .int .i64 x3, .int .i64 x4, .int .i64 x5, .int .i64 x6, .int .i64 x7], .int .i64 5, .int .i64 9] W fun e w' => e = .returned (.agg #[.int .i64 5, .int .i64 9, .int .i64 x2, .int .i64 x4, .int .i64 x3, .int .i64 x5, .int .i64 x6, .int .i64 x7]) ∧ J w') := Lib.hid fun W hW =>
    (lgTurn_any ⟨x0, x1, x2, x3, x4, x5, x6, x7⟩ 5 9 W).mono fun e w' g => ⟨g.1, HJI.out _ ((HJO.out W hW).trans (g.2.mono (HJO.out W hW).size))⟩
  have HT2 : Hid (∀ W, J W → Calls Try.prog 17 #[.agg #[.int .i64 5, .int .i64 9, .int .i64 x2, .int .i64 x4, .int .i64 x3, .int .i64 x5, .int .i64 x6, .int .i64 x7], .int .i64 x0, .int .i64 x1] W fun e w' => e = .returned (.agg #[.int .i64 x0, .int .i64 x1, .int .i64 x2, .int .i64 x3, .int .i64 x4, .int .i64 x5, .int .i64 x6, .int .i64 x7]) ∧ J w') := Lib.hid fun W hW =>
    (lgTurn_any ⟨5, 9, x2, x4, x3, x5, x6, x7⟩ x0 x1 W).mono fun e w' g => ⟨g.1, HJI.out _ ((HJO.out W hW).trans (g.2.mono (HJO.out W hW).size))⟩
  go_cut [53] (fun c wx => c = .bool false ∧ Hid (J wx))
  case first =>
    refine wp_region_props [37, 38, 39, 40, 41, 42, 43, 44, 45, 46, 47, 48, 49, 50, 51, 52, 53] (slotS [37, 38, 39, 40, 41, 42, 43, 44, 45, 46, 47, 48, 49, 50, 51, 52, 53]) (readsS [37, 38, 39, 40, 41, 42, 43, 44, 45, 46, 47, 48, 49, 50, 51, 52, 53]) (RTs [37, 38, 39, 40, 41, 42, 43, 44, 45, 46, 47, 48, 49, 50, 51, 52, 53] [.int .i64 0, .bool false, .bool false, .int .i64 0, .bool false, .bool false, .bool false, .agg #[.int .i64 x0, .int .i64 x1, .int .i64 x2, .int .i64 x3, .int .i64 x4, .int .i64 x5, .int .i64 x6, .int .i64 x7], .agg #[.int .i64 5, .int .i64 9, .int .i64 x2, .int .i64 x4, .int .i64 x3, .int .i64 x5, .int .i64 x6, .int .i64 x7], .pointer (some ⟨bP, 0, none⟩), .int .i64 x0, .pointer (some ⟨bP, 1, none⟩), .int .i64 x1, .agg #[.int .i64 x0, .int .i64 x1, .int .i64 x2, .int .i64 x3, .int .i64 x4, .int .i64 x5, .int .i64 x6, .int .i64 x7], .agg #[.int .i64 x0, .int .i64 x1, .int .i64 x2, .int .i64 x3, .int .i64 x4, .int .i64 x5, .int .i64 x6, .int .i64 x7], .bool false, .bool false]) J (by kernel_rfl) (by kernel_rfl) (by kernel_rfl) (HJD.out _ HJ0.out) (fun j f q v W hq h => RTs.upd hq h) ?_ ?_
    case refine_1 =>
      intro iq hiq f W hIW hdep
      have hiq' : iq < 17 := hiq
      generalize ha1 : putsL _ [37, 38, 39, 40, 41, 42, 43, 44, 45, 46, 47, 48, 49, 50, 51, 52, 53] f = a1
      match iq, hiq', hdep with
      | 0, _, hdep =>
        have E7 : a1.tmps[7]?.getD undef = .int .i64 0 := by rw [← ha1]; exact (putsL_out2 _ _ _ _ (by decide)).trans rfl
        exact wpOp_val rfl rfl (v := .int .i64 0) (w' := W) (by simp [execOp, go_sem, E7]) ⟨hIW, fun _ h => h, Or.inl ⟨_, by decide, rfl, updF_same _ _ _⟩⟩
      | 1, _, hdep =>
        have E37 : a1.tmps[37]?.getD undef = .int .i64 0 := by rw [← ha1]; exact (putsL_in2 _ _ _ _ (by decide) (show 37 < 67 from by decide)).trans (hdep 0 (by kernel_rfl))
        exact wpOp_val rfl rfl (v := .bool false) (w' := W) (by simp [execOp, go_sem, E37]) ⟨hIW, fun _ h => h, Or.inl ⟨_, by decide, rfl, updF_same _ _ _⟩⟩
      | 2, _, hdep =>
        have E38 : a1.tmps[38]?.getD undef = .bool false := by rw [← ha1]; exact (putsL_in2 _ _ _ _ (by decide) (show 38 < 67 from by decide)).trans (hdep 1 (by kernel_rfl))
        exact wpOp_val rfl rfl (v := .bool false) (w' := W) (by simp [execOp, go_sem, E38]) ⟨hIW, fun _ h => h, Or.inl ⟨_, by decide, rfl, updF_same _ _ _⟩⟩
      | 3, _, hdep =>
        have G2 : a1.tmps[39]? = some (.bool false) := by rw [← ha1]; exact (putsL_some _ _ _ _ (by decide) (show 39 < 67 from by decide)).trans (congrArg some (hdep 2 (by kernel_rfl)))
        have E9 : a1.tmps[9]?.getD undef = .int .i64 0 := by rw [← ha1]; exact (putsL_out2 _ _ _ _ (by decide)).trans rfl
        exact wpOp_valG rfl rfl (yielded_of rfl G2) (v := .int .i64 0) (w' := W) (by simp [execOp, go_sem, E9]) ⟨hIW, fun _ h => h, Or.inl ⟨_, by decide, rfl, updF_same _ _ _⟩⟩
      | 4, _, hdep =>
        have G2 : a1.tmps[39]? = some (.bool false) := by rw [← ha1]; exact (putsL_some _ _ _ _ (by decide) (show 39 < 67 from by decide)).trans (congrArg some (hdep 2 (by kernel_rfl)))
        have E40 : a1.tmps[40]?.getD undef = .int .i64 0 := by rw [← ha1]; exact (putsL_in2 _ _ _ _ (by decide) (show 40 < 67 from by decide)).trans (hdep 3 (by kernel_rfl))
        exact wpOp_valG rfl rfl (yielded_of rfl G2) (v := .bool false) (w' := W) (by simp [execOp, go_sem, E40]) ⟨hIW, fun _ h => h, Or.inl ⟨_, by decide, rfl, updF_same _ _ _⟩⟩
      | 5, _, hdep =>
        have E39 : a1.tmps[39]?.getD undef = .bool false := by rw [← ha1]; exact (putsL_in2 _ _ _ _ (by decide) (show 39 < 67 from by decide)).trans (hdep 2 (by kernel_rfl))
        have E41 : a1.tmps[41]?.getD undef = .bool false := by rw [← ha1]; exact (putsL_in2 _ _ _ _ (by decide) (show 41 < 67 from by decide)).trans (hdep 4 (by kernel_rfl))
        exact wpOp_val rfl rfl (v := .bool false) (w' := W) (by simp [execOp, go_sem, E39, E41]) ⟨hIW, fun _ h => h, Or.inl ⟨_, by decide, rfl, updF_same _ _ _⟩⟩
      | 6, _, hdep =>
        have E42 : a1.tmps[42]?.getD undef = .bool false := by rw [← ha1]; exact (putsL_in2 _ _ _ _ (by decide) (show 42 < 67 from by decide)).trans (hdep 5 (by kernel_rfl))
        exact wpOp_val rfl rfl (v := .bool false) (w' := W) (by simp [execOp, go_sem, E42]) ⟨hIW, fun _ h => h, Or.inl ⟨_, by decide, rfl, updF_same _ _ _⟩⟩
      | 7, _, hdep =>
        have G6 : a1.tmps[43]? = some (.bool false) := by rw [← ha1]; exact (putsL_some _ _ _ _ (by decide) (show 43 < 67 from by decide)).trans (congrArg some (hdep 6 (by kernel_rfl)))
        have E5 : a1.tmps[5]?.getD undef = .pointer (some ⟨bP, 0, none⟩) := by rw [← ha1]; exact (putsL_out2 _ _ _ _ (by decide)).trans rfl
        have v0 : W.cell? ⟨bP, 0, none⟩ = some (.int .i64 x0) := by simpa using HCP.out W hIW 0
        have v1 : W.cell? ⟨bP, 1, none⟩ = some (.int .i64 x1) := by simpa using HCP.out W hIW 1
        have v2 : W.cell? ⟨bP, 2, none⟩ = some (.int .i64 x2) := by simpa using HCP.out W hIW 2
        have v3 : W.cell? ⟨bP, 3, none⟩ = some (.int .i64 x3) := by simpa using HCP.out W hIW 3
        have v4 : W.cell? ⟨bP, 4, none⟩ = some (.int .i64 x4) := by simpa using HCP.out W hIW 4
        have v5 : W.cell? ⟨bP, 5, none⟩ = some (.int .i64 x5) := by simpa using HCP.out W hIW 5
        have v6 : W.cell? ⟨bP, 6, none⟩ = some (.int .i64 x6) := by simpa using HCP.out W hIW 6
        have v7 : W.cell? ⟨bP, 7, none⟩ = some (.int .i64 x7) := by simpa using HCP.out W hIW 7
        exact wpOp_valG rfl rfl (yielded_of rfl G6) (v := .agg #[.int .i64 x0, .int .i64 x1, .int .i64 x2, .int .i64 x3, .int .i64 x4, .int .i64 x5, .int .i64 x6, .int .i64 x7]) (w' := W) (by simp [execOp, go_sem, E5, v0, v1, v2, v3, v4, v5, v6, v7]) ⟨hIW, fun _ h => h, Or.inl ⟨_, by decide, rfl, updF_same _ _ _⟩⟩
      | 8, _, hdep =>
        have G6 : a1.tmps[43]? = some (.bool false) := by rw [← ha1]; exact (putsL_some _ _ _ _ (by decide) (show 43 < 67 from by decide)).trans (congrArg some (hdep 6 (by kernel_rfl)))
        have E44 : a1.tmps[44]?.getD undef = .agg #[.int .i64 x0, .int .i64 x1, .int .i64 x2, .int .i64 x3, .int .i64 x4, .int .i64 x5, .int .i64 x6, .int .i64 x7] := by rw [← ha1]; exact (putsL_in2 _ _ _ _ (by decide) (show 44 < 67 from by decide)).trans (hdep 7 (by kernel_rfl))
        refine wpOp_callG rfl rfl (yielded_of rfl G6) (n := 17) (vs := #[.agg #[.int .i64 x0, .int .i64 x1, .int .i64 x2, .int .i64 x3, .int .i64 x4, .int .i64 x5, .int .i64 x6, .int .i64 x7], .int .i64 5, .int .i64 9]) (by have := egT #[.agg #[.int .i64 x0, .int .i64 x1, .int .i64 x2, .int .i64 x3, .int .i64 x4, .int .i64 x5, .int .i64 x6, .int .i64 x7], .int .i64 5, .int .i64 9] W; simp [execOp, E44, resolve, invoke, go_sem] <;> exact this) ((HT1.out W hIW).mono fun e w' h => (⟨_, h.1, rfl, h.2⟩ : ∃ v, e = .returned v ∧ (v = .agg #[.int .i64 5, .int .i64 9, .int .i64 x2, .int .i64 x4, .int .i64 x3, .int .i64 x5, .int .i64 x6, .int .i64 x7] ∧ J w'))) ?_
        rintro v w' ⟨rfl, hI'⟩
        exact ⟨hI', fun _ h => h, Or.inl ⟨_, by decide, rfl, updF_same _ _ _⟩⟩
      | 9, _, hdep =>
        have G6 : a1.tmps[43]? = some (.bool false) := by rw [← ha1]; exact (putsL_some _ _ _ _ (by decide) (show 43 < 67 from by decide)).trans (congrArg some (hdep 6 (by kernel_rfl)))
        have E5 : a1.tmps[5]?.getD undef = .pointer (some ⟨bP, 0, none⟩) := by rw [← ha1]; exact (putsL_out2 _ _ _ _ (by decide)).trans rfl
        exact wpOp_valG rfl rfl (yielded_of rfl G6) (v := .pointer (some ⟨bP, 0, none⟩)) (w' := W) (by simp [execOp, go_sem, E5]) ⟨hIW, fun _ h => h, Or.inl ⟨_, by decide, rfl, updF_same _ _ _⟩⟩
      | 10, _, hdep =>
        have G6 : a1.tmps[43]? = some (.bool false) := by rw [← ha1]; exact (putsL_some _ _ _ _ (by decide) (show 43 < 67 from by decide)).trans (congrArg some (hdep 6 (by kernel_rfl)))
        have E46 : a1.tmps[46]?.getD undef = .pointer (some ⟨bP, 0, none⟩) := by rw [← ha1]; exact (putsL_in2 _ _ _ _ (by decide) (show 46 < 67 from by decide)).trans (hdep 9 (by kernel_rfl))
        have v0 : W.cell? ⟨bP, 0, none⟩ = some (.int .i64 x0) := by simpa using HCP.out W hIW 0
        exact wpOp_valG rfl rfl (yielded_of rfl G6) (v := .int .i64 x0) (w' := W) (by simp [execOp, go_sem, E46, v0]) ⟨hIW, fun _ h => h, Or.inl ⟨_, by decide, rfl, updF_same _ _ _⟩⟩
      | 11, _, hdep =>
        have G6 : a1.tmps[43]? = some (.bool false) := by rw [← ha1]; exact (putsL_some _ _ _ _ (by decide) (show 43 < 67 from by decide)).trans (congrArg some (hdep 6 (by kernel_rfl)))
        have E5 : a1.tmps[5]?.getD undef = .pointer (some ⟨bP, 0, none⟩) := by rw [← ha1]; exact (putsL_out2 _ _ _ _ (by decide)).trans rfl
        exact wpOp_valG rfl rfl (yielded_of rfl G6) (v := .pointer (some ⟨bP, 1, none⟩)) (w' := W) (by simp [execOp, go_sem, E5]) ⟨hIW, fun _ h => h, Or.inl ⟨_, by decide, rfl, updF_same _ _ _⟩⟩
      | 12, _, hdep =>
        have G6 : a1.tmps[43]? = some (.bool false) := by rw [← ha1]; exact (putsL_some _ _ _ _ (by decide) (show 43 < 67 from by decide)).trans (congrArg some (hdep 6 (by kernel_rfl)))
        have E48 : a1.tmps[48]?.getD undef = .pointer (some ⟨bP, 1, none⟩) := by rw [← ha1]; exact (putsL_in2 _ _ _ _ (by decide) (show 48 < 67 from by decide)).trans (hdep 11 (by kernel_rfl))
        have v1 : W.cell? ⟨bP, 1, none⟩ = some (.int .i64 x1) := by simpa using HCP.out W hIW 1
        exact wpOp_valG rfl rfl (yielded_of rfl G6) (v := .int .i64 x1) (w' := W) (by simp [execOp, go_sem, E48, v1]) ⟨hIW, fun _ h => h, Or.inl ⟨_, by decide, rfl, updF_same _ _ _⟩⟩
      | 13, _, hdep =>
        have G6 : a1.tmps[43]? = some (.bool false) := by rw [← ha1]; exact (putsL_some _ _ _ _ (by decide) (show 43 < 67 from by decide)).trans (congrArg some (hdep 6 (by kernel_rfl)))
        have E45 : a1.tmps[45]?.getD undef = .agg #[.int .i64 5, .int .i64 9, .int .i64 x2, .int .i64 x4, .int .i64 x3, .int .i64 x5, .int .i64 x6, .int .i64 x7] := by rw [← ha1]; exact (putsL_in2 _ _ _ _ (by decide) (show 45 < 67 from by decide)).trans (hdep 8 (by kernel_rfl))
        have E47 : a1.tmps[47]?.getD undef = .int .i64 x0 := by rw [← ha1]; exact (putsL_in2 _ _ _ _ (by decide) (show 47 < 67 from by decide)).trans (hdep 10 (by kernel_rfl))
        have E49 : a1.tmps[49]?.getD undef = .int .i64 x1 := by rw [← ha1]; exact (putsL_in2 _ _ _ _ (by decide) (show 49 < 67 from by decide)).trans (hdep 12 (by kernel_rfl))
        refine wpOp_callG rfl rfl (yielded_of rfl G6) (n := 17) (vs := #[.agg #[.int .i64 5, .int .i64 9, .int .i64 x2, .int .i64 x4, .int .i64 x3, .int .i64 x5, .int .i64 x6, .int .i64 x7], .int .i64 x0, .int .i64 x1]) (by have := egT #[.agg #[.int .i64 5, .int .i64 9, .int .i64 x2, .int .i64 x4, .int .i64 x3, .int .i64 x5, .int .i64 x6, .int .i64 x7], .int .i64 x0, .int .i64 x1] W; simp [execOp, E45, E47, E49, resolve, invoke, go_sem] <;> exact this) ((HT2.out W hIW).mono fun e w' h => (⟨_, h.1, rfl, h.2⟩ : ∃ v, e = .returned v ∧ (v = .agg #[.int .i64 x0, .int .i64 x1, .int .i64 x2, .int .i64 x3, .int .i64 x4, .int .i64 x5, .int .i64 x6, .int .i64 x7] ∧ J w'))) ?_
        rintro v w' ⟨rfl, hI'⟩
        exact ⟨hI', fun _ h => h, Or.inl ⟨_, by decide, rfl, updF_same _ _ _⟩⟩
      | 14, _, hdep =>
        have G6 : a1.tmps[43]? = some (.bool false) := by rw [← ha1]; exact (putsL_some _ _ _ _ (by decide) (show 43 < 67 from by decide)).trans (congrArg some (hdep 6 (by kernel_rfl)))
        have E5 : a1.tmps[5]?.getD undef = .pointer (some ⟨bP, 0, none⟩) := by rw [← ha1]; exact (putsL_out2 _ _ _ _ (by decide)).trans rfl
        have v0 : W.cell? ⟨bP, 0, none⟩ = some (.int .i64 x0) := by simpa using HCP.out W hIW 0
        have v1 : W.cell? ⟨bP, 1, none⟩ = some (.int .i64 x1) := by simpa using HCP.out W hIW 1
        have v2 : W.cell? ⟨bP, 2, none⟩ = some (.int .i64 x2) := by simpa using HCP.out W hIW 2
        have v3 : W.cell? ⟨bP, 3, none⟩ = some (.int .i64 x3) := by simpa using HCP.out W hIW 3
        have v4 : W.cell? ⟨bP, 4, none⟩ = some (.int .i64 x4) := by simpa using HCP.out W hIW 4
        have v5 : W.cell? ⟨bP, 5, none⟩ = some (.int .i64 x5) := by simpa using HCP.out W hIW 5
        have v6 : W.cell? ⟨bP, 6, none⟩ = some (.int .i64 x6) := by simpa using HCP.out W hIW 6
        have v7 : W.cell? ⟨bP, 7, none⟩ = some (.int .i64 x7) := by simpa using HCP.out W hIW 7
        exact wpOp_valG rfl rfl (yielded_of rfl G6) (v := .agg #[.int .i64 x0, .int .i64 x1, .int .i64 x2, .int .i64 x3, .int .i64 x4, .int .i64 x5, .int .i64 x6, .int .i64 x7]) (w' := W) (by simp [execOp, go_sem, E5, v0, v1, v2, v3, v4, v5, v6, v7]) ⟨hIW, fun _ h => h, Or.inl ⟨_, by decide, rfl, updF_same _ _ _⟩⟩
      | 15, _, hdep =>
        have G6 : a1.tmps[43]? = some (.bool false) := by rw [← ha1]; exact (putsL_some _ _ _ _ (by decide) (show 43 < 67 from by decide)).trans (congrArg some (hdep 6 (by kernel_rfl)))
        have E50 : a1.tmps[50]?.getD undef = .agg #[.int .i64 x0, .int .i64 x1, .int .i64 x2, .int .i64 x3, .int .i64 x4, .int .i64 x5, .int .i64 x6, .int .i64 x7] := by rw [← ha1]; exact (putsL_in2 _ _ _ _ (by decide) (show 50 < 67 from by decide)).trans (hdep 13 (by kernel_rfl))
        have E51 : a1.tmps[51]?.getD undef = .agg #[.int .i64 x0, .int .i64 x1, .int .i64 x2, .int .i64 x3, .int .i64 x4, .int .i64 x5, .int .i64 x6, .int .i64 x7] := by rw [← ha1]; exact (putsL_in2 _ _ _ _ (by decide) (show 51 < 67 from by decide)).trans (hdep 14 (by kernel_rfl))
        exact wpOp_valG rfl rfl (yielded_of rfl G6) (v := .bool false) (w' := W) (by simp [execOp, go_sem, E50, E51, run_neq_struct]) ⟨hIW, fun _ h => h, Or.inl ⟨_, by decide, rfl, updF_same _ _ _⟩⟩
      | 16, _, hdep =>
        have E43 : a1.tmps[43]?.getD undef = .bool false := by rw [← ha1]; exact (putsL_in2 _ _ _ _ (by decide) (show 43 < 67 from by decide)).trans (hdep 6 (by kernel_rfl))
        have E52 : a1.tmps[52]?.getD undef = .bool false := by rw [← ha1]; exact (putsL_in2 _ _ _ _ (by decide) (show 52 < 67 from by decide)).trans (hdep 15 (by kernel_rfl))
        exact wpOp_val rfl rfl (v := .bool false) (w' := W) (by simp [execOp, go_sem, E43, E52]) ⟨hIW, fun _ h => h, Or.inl ⟨_, by decide, rfl, updF_same _ _ _⟩⟩
      | iq + 17, h, _ => exact absurd h (by omega)
    case refine_2 =>
      intro f W hIW hR
      have h53 : f 53 = .bool false := hR 16 (show 16 < 17 from by decide)
      simp only [putsL, List.foldl_cons, List.foldl_nil, Act.put, List.setIfInBounds_toArray, List.set_cons_zero, List.set_cons_succ]
      go_wp2
      go_meet
      exact ⟨(by first | rfl | exact h53), Lib.hid hIW⟩
  case rest =>
  obtain ⟨rfl, HJX⟩ := hcut
  have HBC := Lib.hid (HJO.out _ HJX.out)
  obtain ⟨wd, hwd⟩ : ∃ x, x = wc := ⟨_, rfl⟩
  rw [← hwd] at HBC ⊢
  clear hwd HJX HT1 HT2 HCP HJ0 HJD HJI HJO
  go_wp2
  go_loopw [10] (fun ev wr => ∃ ee : Int, ev = .int .i64 ee ∧ 0 ≤ ee ∧ ee ≤ 3 ∧ Hid (Below wd.heap.size wd wr)) (fun ev _ => (3 - RowKit.intOf ev).toNat)
  case atStart => exact ⟨0, rfl, by omega, by omega, Lib.hid (Below.refl _ _)⟩
  case round =>
    obtain ⟨ee, rfl, he0, he3, HB⟩ := hrel
    have HBW := Lib.hid (HBC.out.trans (HB.out.mono HBC.out.size))
    by_cases hlt : ee ≤ 2
    · go_upto_region 11 with fail
      obtain ⟨wj, hwj⟩ : ∃ x, x = wr := ⟨_, rfl⟩
      rw [← hwj] at HB HBW ⊢
      clear hwj
      obtain ⟨J, hJ⟩ : ∃ J, J = fun W : World => Below wj.heap.size wj W := ⟨_, rfl⟩
      have HJO : Hid (∀ W, J W → Below wj.heap.size wj W) := Lib.hid fun W hW => by rw [hJ] at hW; exact hW
      have HJI : Hid (∀ W, Below wj.heap.size wj W → J W) := Lib.hid fun W hW => by rw [hJ]; exact hW
      have HJD : Hid (∀ W, J W → J W.drew) := Lib.hid fun W hW => HJI.out _ ((HJO.out W hW).drew)
      have HJ0 : Hid (J wj) := Lib.hid (HJI.out _ (Below.refl _ _))
      clear hJ
      obtain ⟨bs, hbs⟩ : ∃ bs, bs = balsM fun x => ofM ee (byDay 820) x l := ⟨_, rfl⟩
      have hbq : (balsM fun x => ofM ee (byDay 820) x lq) = bs := by
        rw [hbs]; congr 1; funext x; exact HEQ.out ee x
      have hbl : bs.length ≤ 500 := by rw [hbs]; exact bals_length _
      have HWJ : Hid (∀ W, J W → Below wa.heap.size wa W) := Lib.hid fun W hW => HBW.out.trans ((HJO.out W hW).mono HBW.out.size)
      have HCY : Hid (∀ W, J W → ∀ q, W.cell? ⟨bE, q, none⟩ = #[.slice aY nY cY][q]?) := Lib.hid fun W hW q => obj_cell (obj_below HBE.out (HWJ.out W hW)) q
      have HCL : Hid (∀ W, J W → ∀ q, W.cell? ⟨bL, q, none⟩ = #[.slice av nl cv][q]?) := Lib.hid fun W hW q => obj_cell (obj_below HLA.out (HWJ.out W hW)) q
      have HBY : Hid (∀ W, J W → Calls Try.prog 10 #[.agg #[.slice aY nY cY], .int .i64 ee, .int .i64 820] W fun e w' => ∃ u1, e = .returned u1 ∧ ListAt balC 2 w' u1 bs ∧ J w' ∧ Below W.heap.size W w') := Lib.hid fun W hW => by
        refine (lgBalances_right HOQ.out ee 820 (.slice aY nY cY) W (ListAt.below HLY.out (HWJ.out W hW))).mono ?_
        rintro e w' ⟨u, h1, h2, h3⟩
        rw [hbq] at h2
        exact ⟨u, h1, ListAt.owns h2, HJI.out _ ((HJO.out W hW).trans (h3.mono (HJO.out W hW).size)), h3⟩
      have HBL2 : Hid (∀ W, J W → Calls Try.prog 10 #[.agg #[.slice av nl cv], .int .i64 ee, .int .i64 820] W fun e w' => ∃ u2, e = .returned u2 ∧ ListAt balC 2 w' u2 bs ∧ J w' ∧ Below W.heap.size W w') := Lib.hid fun W hW => by
        refine (lgBalances_right HOK.out ee 820 (.slice av nl cv) W (ListAt.below (ListAt.below HL9.out HBA.out) (HWJ.out W hW))).mono ?_
        rintro e w' ⟨u, h1, h2, h3⟩
        rw [← hbs] at h2
        exact ⟨u, h1, ListAt.owns h2, HJI.out _ ((HJO.out W hW).trans (h3.mono (HJO.out W hW).size)), h3⟩
      have HSM : Hid (∀ u1 u2 W, J W → ListAt balC 2 W u1 bs → ListAt balC 2 W u2 bs → Calls Try.prog 18 #[u1, u2] W fun e w' => e = .returned (.bool true) ∧ J w' ∧ Below W.heap.size W w') := Lib.hid fun u1 u2 W hW h1 h2 =>
        (rgListedSame_same bs (by omega) u1 u2 W h1 h2).mono fun e w' g => ⟨g.1, HJI.out _ ((HJO.out W hW).trans (g.2.mono (HJO.out W hW).size)), g.2⟩
      have egB := enters_of Try.func10 (by kernel_rfl) rfl
      have egS := enters_of Try.func18 (by kernel_rfl) rfl
      clear hbs hbq
      obtain ⟨P, hP⟩ : ∃ P : Nat → Value → World → Prop, P = fun j v W => match j with | 0 => (v = .agg #[.slice aY nY cY]) | 1 => (v = .int .i64 ee) | 2 => (∃ u1, v = u1 ∧ ListAt balC 2 W u1 bs) | 3 => (v = .agg #[.slice av nl cv]) | 4 => (v = .int .i64 ee) | 5 => (∃ u2, v = u2 ∧ ListAt balC 2 W u2 bs) | 6 => (v = .bool true) | 7 => (v = .bool false) | _ => True := ⟨_, rfl⟩
      have HPI0 : Hid (∀ v W, P 0 v W ↔ (v = .agg #[.slice aY nY cY])) := Lib.hid fun v W => by rw [hP] <;> exact Iff.rfl
      have HPI1 : Hid (∀ v W, P 1 v W ↔ (v = .int .i64 ee)) := Lib.hid fun v W => by rw [hP] <;> exact Iff.rfl
      have HPI2 : Hid (∀ v W, P 2 v W ↔ (∃ u1, v = u1 ∧ ListAt balC 2 W u1 bs)) := Lib.hid fun v W => by rw [hP] <;> exact Iff.rfl
      have HPI3 : Hid (∀ v W, P 3 v W ↔ (v = .agg #[.slice av nl cv])) := Lib.hid fun v W => by rw [hP] <;> exact Iff.rfl
      have HPI4 : Hid (∀ v W, P 4 v W ↔ (v = .int .i64 ee)) := Lib.hid fun v W => by rw [hP] <;> exact Iff.rfl
      have HPI5 : Hid (∀ v W, P 5 v W ↔ (∃ u2, v = u2 ∧ ListAt balC 2 W u2 bs)) := Lib.hid fun v W => by rw [hP] <;> exact Iff.rfl
      have HPI6 : Hid (∀ v W, P 6 v W ↔ (v = .bool true)) := Lib.hid fun v W => by rw [hP] <;> exact Iff.rfl
      have HPI7 : Hid (∀ v W, P 7 v W ↔ (v = .bool false)) := Lib.hid fun v W => by rw [hP] <;> exact Iff.rfl
      have HKP : Hid (∀ (j : Nat) v W W', Below W.heap.size W W' → P j v W → P j v W') := Lib.hid (by
        rw [hP]
        intro j v W W' hb h
        match j, h with
        | 0, h => exact h
        | 1, h => exact h
        | 2, ⟨u1, e, s0⟩ => exact ⟨u1, e, ListAt.below s0 hb⟩
        | 3, h => exact h
        | 4, h => exact h
        | 5, ⟨u2, e, s0⟩ => exact ⟨u2, e, ListAt.below s0 hb⟩
        | 6, h => exact h
        | 7, h => exact h
        | j + 8, _ => trivial)
      clear hP
      go_cut [65] (fun c wx => c = .bool false ∧ Hid (J wx))
      case first =>
        refine wp_region_props [58, 59, 60, 61, 62, 63, 64, 65] (slotS [58, 59, 60, 61, 62, 63, 64, 65]) (readsS [58, 59, 60, 61, 62, 63, 64, 65]) (RP [58, 59, 60, 61, 62, 63, 64, 65] P) J (by kernel_rfl) (by kernel_rfl) (by kernel_rfl) (HJD.out _ HJ0.out) (fun j f q v W hq h => RP.upd hq h) ?_ ?_
        case refine_1 =>
          intro iq hiq f W hIW hdep0
          have hiq' : iq < 8 := hiq
          have hdep : ∀ j, depB _ iq j = true → P j (f (slotS [58, 59, 60, 61, 62, 63, 64, 65] j)) W := hdep0
          clear hdep0
          generalize ha1 : putsL _ [58, 59, 60, 61, 62, 63, 64, 65] f = a1
          match iq, hiq', hdep with
          | 0, _, hdep0 =>
            have E8 : a1.tmps[8]?.getD undef = .pointer (some ⟨bE, 0, none⟩) := by rw [← ha1]; exact (putsL_out2 _ _ _ _ (by decide)).trans rfl
            have v0 : W.cell? ⟨bE, 0, none⟩ = some (.slice aY nY cY) := by simpa using HCY.out W hIW 0
            exact wpOp_val rfl rfl (v := .agg #[.slice aY nY cY]) (w' := W) (by simp [execOp, go_sem, E8, v0]) ⟨hIW, fun _ h => h, Or.inl ⟨_, by decide, rfl, RP.set ((HPI0.out _ _).2 rfl)⟩⟩
          | 1, _, hdep0 =>
            have E10 : a1.tmps[10]?.getD undef = .int .i64 ee := by rw [← ha1]; exact (putsL_out2 _ _ _ _ (by decide)).trans rfl
            exact wpOp_val rfl rfl (v := .int .i64 ee) (w' := W) (by simp [execOp, go_sem, E10]) ⟨hIW, fun _ h => h, Or.inl ⟨_, by decide, rfl, RP.set ((HPI1.out _ _).2 rfl)⟩⟩
          | 2, _, hdep0 =>
            have hd0 := (HPI0.out _ _).1 (hdep0 0 (by kernel_rfl))
            have hd1 := (HPI1.out _ _).1 (hdep0 1 (by kernel_rfl))
            have E58 : a1.tmps[58]?.getD undef = .agg #[.slice aY nY cY] := by rw [← ha1]; exact (putsL_in2 _ _ _ _ (by decide) (show 58 < 67 from by decide)).trans hd0
            have E59 : a1.tmps[59]?.getD undef = .int .i64 ee := by rw [← ha1]; exact (putsL_in2 _ _ _ _ (by decide) (show 59 < 67 from by decide)).trans hd1
            refine wpOp_call rfl rfl (n := 10) (vs := #[.agg #[.slice aY nY cY], .int .i64 ee, .int .i64 820]) (by have := egB #[.agg #[.slice aY nY cY], .int .i64 ee, .int .i64 820] W; simp [execOp, E58, E59, resolve, invoke, go_sem] <;> exact this) ((HBY.out W hIW).mono fun e w' hh => (by obtain ⟨u1, rfl, p0, hJ', hb'⟩ := hh; exact ⟨_, rfl, (HPI2.out _ _).2 ⟨_, rfl, p0⟩, hJ', hb'⟩ : ∃ v, e = .returned v ∧ (P 2 v w' ∧ J w' ∧ Below W.heap.size W w'))) ?_
            rintro v w' ⟨hv, hI', hb'⟩
            exact ⟨hI', fun j h => HKP.out j _ _ _ hb' h, Or.inl ⟨_, by decide, rfl, RP.set hv⟩⟩
          | 3, _, hdep0 =>
            have E4 : a1.tmps[4]?.getD undef = .pointer (some ⟨bL, 0, none⟩) := by rw [← ha1]; exact (putsL_out2 _ _ _ _ (by decide)).trans rfl
            have v0 : W.cell? ⟨bL, 0, none⟩ = some (.slice av nl cv) := by simpa using HCL.out W hIW 0
            exact wpOp_val rfl rfl (v := .agg #[.slice av nl cv]) (w' := W) (by simp [execOp, go_sem, E4, v0]) ⟨hIW, fun _ h => h, Or.inl ⟨_, by decide, rfl, RP.set ((HPI3.out _ _).2 rfl)⟩⟩
          | 4, _, hdep0 =>
            have E10 : a1.tmps[10]?.getD undef = .int .i64 ee := by rw [← ha1]; exact (putsL_out2 _ _ _ _ (by decide)).trans rfl
            exact wpOp_val rfl rfl (v := .int .i64 ee) (w' := W) (by simp [execOp, go_sem, E10]) ⟨hIW, fun _ h => h, Or.inl ⟨_, by decide, rfl, RP.set ((HPI4.out _ _).2 rfl)⟩⟩
          | 5, _, hdep0 =>
            have hd3 := (HPI3.out _ _).1 (hdep0 3 (by kernel_rfl))
            have hd4 := (HPI4.out _ _).1 (hdep0 4 (by kernel_rfl))
            have E61 : a1.tmps[61]?.getD undef = .agg #[.slice av nl cv] := by rw [← ha1]; exact (putsL_in2 _ _ _ _ (by decide) (show 61 < 67 from by decide)).trans hd3
            have E62 : a1.tmps[62]?.getD undef = .int .i64 ee := by rw [← ha1]; exact (putsL_in2 _ _ _ _ (by decide) (show 62 < 67 from by decide)).trans hd4
            refine wpOp_call rfl rfl (n := 10) (vs := #[.agg #[.slice av nl cv], .int .i64 ee, .int .i64 820]) (by have := egB #[.agg #[.slice av nl cv], .int .i64 ee, .int .i64 820] W; simp [execOp, E61, E62, resolve, invoke, go_sem] <;> exact this) ((HBL2.out W hIW).mono fun e w' hh => (by obtain ⟨u2, rfl, p0, hJ', hb'⟩ := hh; exact ⟨_, rfl, (HPI5.out _ _).2 ⟨_, rfl, p0⟩, hJ', hb'⟩ : ∃ v, e = .returned v ∧ (P 5 v w' ∧ J w' ∧ Below W.heap.size W w'))) ?_
            rintro v w' ⟨hv, hI', hb'⟩
            exact ⟨hI', fun j h => HKP.out j _ _ _ hb' h, Or.inl ⟨_, by decide, rfl, RP.set hv⟩⟩
          | 6, _, hdep0 =>
            have hd2 := (HPI2.out _ _).1 (hdep0 2 (by kernel_rfl))
            have hd5 := (HPI5.out _ _).1 (hdep0 5 (by kernel_rfl))
            obtain ⟨u1, q2, r2_0⟩ := hd2
            have E60 : a1.tmps[60]?.getD undef = u1 := by rw [← ha1]; exact (putsL_in2 _ _ _ _ (by decide) (show 60 < 67 from by decide)).trans q2
            obtain ⟨u2, q5, r5_0⟩ := hd5
            have E63 : a1.tmps[63]?.getD undef = u2 := by rw [← ha1]; exact (putsL_in2 _ _ _ _ (by decide) (show 63 < 67 from by decide)).trans q5
            refine wpOp_call rfl rfl (n := 18) (vs := #[u1, u2]) (by have := egS #[u1, u2] W; simp [execOp, E60, E63, resolve, invoke, go_sem] <;> exact this) ((HSM.out _ _ W hIW r2_0 r5_0).mono fun e w' hh => (by obtain ⟨rfl, hJ', hb'⟩ := hh; exact ⟨_, rfl, (HPI6.out _ _).2 rfl, hJ', hb'⟩ : ∃ v, e = .returned v ∧ (P 6 v w' ∧ J w' ∧ Below W.heap.size W w'))) ?_
            rintro v w' ⟨hv, hI', hb'⟩
            exact ⟨hI', fun j h => HKP.out j _ _ _ hb' h, Or.inl ⟨_, by decide, rfl, RP.set hv⟩⟩
          | 7, _, hdep0 =>
            have hd6 := (HPI6.out _ _).1 (hdep0 6 (by kernel_rfl))
            have E64 : a1.tmps[64]?.getD undef = .bool true := by rw [← ha1]; exact (putsL_in2 _ _ _ _ (by decide) (show 64 < 67 from by decide)).trans hd6
            exact wpOp_val rfl rfl (v := .bool false) (w' := W) (by simp [execOp, go_sem, E64]) ⟨hIW, fun _ h => h, Or.inl ⟨_, by decide, rfl, RP.set ((HPI7.out _ _).2 rfl)⟩⟩
          | iq + 8, h, _ => exact absurd h (by omega)
        case refine_2 =>
          intro f W hIW hR
          have h65 := (HPI7.out _ _).1 (hR 7 (show 7 < 8 from by decide))
          simp only [putsL, List.foldl_cons, List.foldl_nil, Act.put, List.setIfInBounds_toArray, List.set_cons_zero, List.set_cons_succ]
          go_wp2
          go_meet
          exact ⟨(by first | rfl | exact h65), Lib.hid hIW⟩
      case rest =>
      obtain ⟨rfl, HJX⟩ := hcut
      have HBX2 := Lib.hid (HB.out.trans ((HJO.out _ HJX.out).mono HB.out.size))
      have hwe : IntKind.i64.wrap (ee + 1) = ee + 1 := IntWalk.i64_in _ (by omega)
      go_wp2
      go_roundw
      case rel => exact ⟨ee + 1, by first | rfl | go_num, by omega, by omega, HBX2⟩
      case measure => simp [RowKit.intOf]; omega
    · obtain rfl : ee = 3 := by omega
      go_wp2_with fail
      refine (HSN.out _).mono ?_
      rintro e w9 ⟨rfl, hb9⟩
      have HBF := Lib.hid (HEND.out.trans ((HBA.out.trans ((HBW.out.trans (hb9.mono HBW.out.size)).mono HBA.out.size)).mono HEND.out.size))
      clear hb9
      go_wp2
      go_ret
      exact ⟨rfl, HBF.out⟩

end Go.Proofs.Ytoelidndnajedab
