/- RestatementEffects: the effects of corrections add up, and turning all postings of one turns its effect. -/
import Derived.Test.YtoccnindkimjdaaMHsF
set_option linter.unusedSimpArgs false
set_option linter.unusedVariables false
set_option linter.unusedSimpArgs false
set_option linter.unusedVariables false
namespace Go.Proofs.Ytoccnindkimjdaa
open Go.RowKit Go.Lib Go.Proofs

def turnP (p : Pst) : Pst := ⟨p.num, p.day, p.ent, p.crd, p.deb, p.amt, p.par, p.ref⟩
theorem effP_turn (p : Pst) : effP (turnP p) = -effP p := by
  show (if 4 ≤ classM p.deb then p.amt else 0) - (if 4 ≤ classM p.crd then p.amt else 0) = -((if 4 ≤ classM p.crd then p.amt else 0) - (if 4 ≤ classM p.deb then p.amt else 0))
  omega
theorem effL_turn : ∀ l : List Pst, effL (l.map turnP) = -effL l
  | [] => rfl
  | p :: l => by simp only [List.map_cons, effL, effP_turn, effL_turn l]; omega
theorem corOk_turn {y f : Int} {l : List Pst} (h : CorOk ⟨y, f, l⟩) : CorOk ⟨y, f, l.map turnP⟩ := by
  refine ⟨h.yr, h.fnd, by have := h.len; simp only [List.length_map]; exact this, fun p hp => ?_⟩
  obtain ⟨q, hq, rfl⟩ := List.mem_map.1 hp
  have k := h.ps q hq
  exact ⟨⟨k.ok.num, k.ok.day, k.ok.ent, k.ok.crd, k.ok.deb, Ne.symm k.ok.ne, k.ok.amt, k.ok.par, k.ok.pne, k.ok.ref⟩, k.sm, k.yr⟩
structure DI (w : World) (bD : Nat) (y f : Int) (v : Value) (n : Nat) (l : List Pst) (W : World) : Prop where
  bel : Below w.heap.size w W
  box : W.heap[bD]? = some (.cells #[.int .i64 y, .int .i64 f, v] 49 (0, 0))
  row : W.ownsRow w.heap.size 55 8 v n (cellsL pstC l)
theorem DI.below {w W W' : World} {bD : Nat} {y f : Int} {v : Value} {n : Nat} {l : List Pst} (k : DI w bD y f v n l W) (hb : Below W.heap.size W W') : DI w bD y f v n l W' :=
  ⟨k.bel.trans (hb.mono k.bel.size), obj_below k.box hb, ownsRow_below k.row hb⟩
theorem DI.append {w W W' : World} {bD : Nat} {y f : Int} {v : Value} {n : Nat} {l : List Pst} (k : DI w bD y f v n l W) (hg : W.grownBy W' v.ownBlock) : Below w.heap.size w W' ∧ W'.heap[bD]? = some (.cells #[.int .i64 y, .int .i64 f, v] 49 (0, 0)) :=
  ⟨k.bel.grown hg k.bel.size (fun b e => ownBlock_le k.row b e), box_keep k.box hg (notOf_owns k.row (by decide))⟩
theorem DI.store {w W : World} {bD : Nat} {y f : Int} {v u : Value} {n : Nat} {l : List Pst} (h1 : Below w.heap.size w W) (h2 : W.heap[bD]? = some (.cells #[.int .i64 y, .int .i64 f, v] 49 (0, 0))) (h3 : W.ownsRow w.heap.size 55 8 u n (cellsL pstC l)) (hl : w.heap.size ≤ bD) : DI w bD y f u n l (W.setCell ⟨bD, 2, none⟩ u) := by
  have hg : W.grownBy (W.setCell ⟨bD, 2, none⟩ u) (some bD) := setCell_grown _ _
  have hset := obj_set h2 2 u
  simp only [List.setIfInBounds_toArray, List.set_cons_zero, List.set_cons_succ] at hset
  exact ⟨h1.grown hg h1.size (fun b e => by injection e with e; omega), hset, owns_keep h3 hg (notOf_box h2 (by decide))⟩
set_option maxHeartbeats 1000000 in
theorem rgTurn_any (p : Pst) (n d : Int) (w : World) :
    Calls Try.prog 19 #[.agg (pstC p).toArray, .int .i64 n, .int .i64 d] w fun e w' => e = .returned (.agg (pstC ⟨n, d, p.ent, p.crd, p.deb, p.amt, p.par, p.ref⟩).toArray) ∧ Below w.heap.size w w' := by
  obtain ⟨x0, x1, x2, x3, x4, x5, x6, x7⟩ := p
  simp only [pstC]
  go_enter Try.func19, Try.ntmps19
  go_wp2
  refine bodyPost_ret (v := .agg #[.int .i64 n, .int .i64 d, .int .i64 x2, .int .i64 x4, .int .i64 x3, .int .i64 x5, .int .i64 x6, .int .i64 x7]) (by simp [results, Try.results19, go_sem]) rfl ⟨rfl, ?_⟩
  exact (below_alloc w _).trans ((below_alloc _ _).mono (by simp))

set_option maxRecDepth 100000 in
set_option maxHeartbeats 16000000 in
theorem lawEffects44_any (v : Value) (n : Nat) (w : World) (hi : IntsAt w v n w.heap.size) (hn : n ≤ 9223372036854775807) :
    Calls Try.prog 6 #[v] w fun e w' => e = .returned (.bool true) ∧ Below w.heap.size w w' := by
  have HNEW := Lib.hid (sNew_any v n w hi hn)
  clear hi hn
  go_enter Try.func6, Try.ntmps6
  go_wp2_with fail
  refine (HNEW.out).mono ?_
  rintro e w1 ⟨rfl, t1, b1⟩
  obtain ⟨tb, htb⟩ : ∃ tb, tb = w.heap.size := ⟨_, rfl⟩
  rw [← htb] at t1 ⊢
  have HMD := Lib.hid (made44_any tb (most := 4) (by omega) w1 t1)
  have HTB := Lib.hid htb
  have HFIN : Hid (∀ W, SI w1 tb W → Below w.heap.size w W) := Lib.hid fun W hW => b1.grown hW.old b1.size (fun q e => by injection e with e; omega)
  clear t1 b1 HNEW htb
  go_wp2_with fail
  refine (HMD.out).mono ?_
  rintro e w2 ⟨h, ul, up, uc, rfl, hm, hat, hsi⟩
  obtain ⟨al, ap, ac, cl, cp, cc, rfl, rfl, rfl⟩ := hat.parts
  obtain ⟨nl, hnl⟩ : ∃ q, q = h.led.length := ⟨_, rfl⟩
  obtain ⟨np, hnp⟩ : ∃ q, q = h.pres.length := ⟨_, rfl⟩
  obtain ⟨nc, hnc⟩ : ∃ q, q = h.cors.length := ⟨_, rfl⟩
  rw [← hnl, ← hnp, ← hnc] at hat ⊢
  have HM := Lib.hid hm
  have HOK := Lib.hid hm.ok
  have HNL := Lib.hid hnl
  have HNP := Lib.hid hnp
  have HNC := Lib.hid hnc
  obtain ⟨w3, hw3⟩ : ∃ W, W = w2.alloc (.cells #[.slice al nl cl, .slice ap np cp, .slice ac nc cc] 31) := ⟨_, rfl⟩
  obtain ⟨bH, hbH⟩ : ∃ b, b = w2.heap.size := ⟨_, rfl⟩
  have XH_w3 : Hid (w3.heap[bH]? = some (.cells #[.slice al nl cl, .slice ap np cp, .slice ac nc cc] 31 (0, 0))) := Lib.hid (by rw [hw3, hbH]; exact heap_alloc_new _ _)
  have S_w3 : Hid (SI w1 tb w3) := Lib.hid (by rw [hw3]; exact hsi.alloc _)
  have A_w3 : Hid (HstAt w3 (.slice al nl cl) (.slice ap np cp) (.slice ac nc cc) h) := Lib.hid (by rw [hw3]; exact hat.below (below_alloc _ _))
  have HNT : Hid (bH ≠ tb) := Lib.hid (by have := hsi.src.lt; omega)
  have HW3 := Lib.hid hw3
  have HBH := Lib.hid hbH
  clear hw3 hbH hm hat hsi hnl hnp hnc HMD
  go_upto_region 3 with fail
  rw [← HW3.out, ← HBH.out]
  go_wp2_with fail
  refine (correction44_any tb (fnd := 3000) (by omega) w3 S_w3.out.src).mono ?_
  rintro e w4 ⟨c, sx, rfl, hc, hc2, hp, hsi⟩
  have XH_w4 := Lib.hid (obj_turn XH_w3.out hsi.old HNT.out)
  have A_w4 := Lib.hid (A_w3.out.turn S_w3.out.src hsi.old)
  have B_w4 := Lib.hid (HFIN.out _ (S_w3.out.turn hsi.src hsi.old))
  obtain ⟨cy, cf, ps⟩ := c
  obtain ⟨sa, sn, sc⟩ := sx
  obtain ⟨sa', sc', e1, -, -⟩ := hp.shape pstF
  simp only [Sli.v] at e1 hp hc2 ⊢
  injection e1 with ea e2 ec
  subst e2
  clear ea ec
  have hlc : lastF h.cors ≤ cf := by have h1 := HM.out.last; have h2 := hc2.2; omega
  have hcy := hc.yr
  simp only at hcy
  obtain ⟨pn, hpn⟩ : ∃ q, q = ps.length := ⟨_, rfl⟩
  rw [← hpn] at hp ⊢
  have HPN := Lib.hid hpn
  have PS_w4 := Lib.hid hp
  have HC := Lib.hid hc
  have HLC := Lib.hid hlc
  have hcf : cf = 3000 := hc2.2
  have HCF := Lib.hid hcf
  have hcy2 : cy ≤ 2 := hc2.1
  clear hsi hp hc hlc hc2 hpn hcf XH_w3 A_w3 S_w3 HFIN
  obtain ⟨w5, hwn⟩ : ∃ W, W = w4.alloc (.cells #[.int .i64 cy, .int .i64 cf, .slice sa pn sc] 49) := ⟨_, rfl⟩
  obtain ⟨bC, hbb⟩ : ∃ b, b = w4.heap.size := ⟨_, rfl⟩
  have hbn : Below w4.heap.size w4 w5 := by rw [hwn]; exact below_alloc _ _
  have XC_w5 : Hid (w5.heap[bC]? = some (.cells #[.int .i64 cy, .int .i64 cf, .slice sa pn sc] 49 (0, 0))) := Lib.hid (by rw [hwn, hbb]; exact heap_alloc_new _ _)
  have XH_w5 := Lib.hid (obj_below XH_w4.out hbn)
  have A_w5 := Lib.hid (A_w4.out.below hbn)
  have B_w5 := Lib.hid (B_w4.out.trans (hbn.mono B_w4.out.size))
  have PS_w5 := Lib.hid (ListAt.below PS_w4.out hbn)
  clear XH_w4 A_w4 B_w4 PS_w4
  have HW_w5 := Lib.hid hwn
  have HP_bC := Lib.hid hbb
  clear hwn hbb hbn
  go_upto_region 4 with fail
  rw [← HW_w5.out, ← HP_bC.out]
  obtain ⟨i0, hi0, hz0, hz1, hz2⟩ := info_parts Try.infoRsPst
  have hx := XC_w5.out
  have zXC0 := obj_cell hx 0
  have zXC1 := obj_cell hx 1
  have zXC2 := obj_cell hx 2
  clear hx
  simp at zXC0 zXC1 zXC2
  obtain ⟨w6, hw6⟩ : ∃ W, W = w5.alloc (.cells #[.int .i64 cy, .int .i64 cf, .slice sa pn sc] 49) := ⟨_, rfl⟩
  obtain ⟨bD, hbD⟩ : ∃ b, b = w5.heap.size := ⟨_, rfl⟩
  have hd6 : w6.heap[bD]? = some (.cells #[.int .i64 cy, .int .i64 cf, .slice sa pn sc] 49 (0, 0)) := by rw [hw6, hbD]; exact heap_alloc_new _ _
  have HB6 : Hid (Below w5.heap.size w5 w6) := Lib.hid (by rw [hw6]; exact below_alloc _ _)
  have HLD : Hid (w5.heap.size ≤ bD) := Lib.hid (by omega)
  have HD6 := Lib.hid hd6
  have HW6 := Lib.hid hw6
  have HBD := Lib.hid hbD
  clear hw6 hbD hd6
  go_upto_region 5 with fail
  rw [← HW6.out, ← HBD.out]
  clear zXC0 zXC1 zXC2
  have hd6 := HD6.out
  have zd2 := obj_cell hd6 2
  have zf2 := obj_free hd6 2
  simp at zd2
  clear hd6
  obtain ⟨w7, hw7⟩ : ∃ W, W = w6.setCell ⟨bD, 2, none⟩ (.slice none 0 0) := ⟨_, rfl⟩
  have HDI7 : Hid (DI w5 bD cy cf (.slice none 0 0) 0 [] w7) := Lib.hid (by
    have hset := obj_set HD6.out 2 (.slice none 0 0)
    simp only [List.setIfInBounds_toArray, List.set_cons_zero, List.set_cons_succ] at hset
    refine ⟨by rw [hw7]; exact HB6.out.setCell (by exact HLD.out) _, by rw [hw7]; exact hset, World.ownsRow_nil _ _ _ _⟩)
  have HW7 := Lib.hid hw7
  clear hw7
  go_upto_region 6 with fail
  rw [← HW7.out]
  clear zd2 zf2
  obtain ⟨sa', sc', e1, hpc, hps⟩ := PS_w5.out.shape pstF
  injection e1 with ea e2 ec
  subst ea
  subst ec
  clear e2 hpc
  have HPS := Lib.hid hps
  clear hps HD6 HB6
  have hxc := obj_below XC_w5.out HDI7.out.bel
  have zc0 := obj_cell hxc 0
  have zc1 := obj_cell hxc 1
  have zc2 := obj_cell hxc 2
  simp at zc0 zc1 zc2
  clear hxc
  have hpl := HC.out.len
  simp only at hpl
  rw [← HPN.out] at hpl
  go_wp2
  go_loopw [32] (fun iv wr => ∃ (jn : Nat) (av : Option Addr) (cv : Nat), iv = .int .i64 jn ∧ jn ≤ pn ∧ Hid (DI w5 bD cy cf (.slice av jn cv) jn ((ps.take jn).map turnP) wr)) (fun iv _ => pn - (RowKit.intOf iv).toNat)
  case atStart => exact ⟨0, none, 0, rfl, by omega, HDI7⟩
  case round =>
  clear HDI7 zc0 zc1 zc2
  obtain ⟨jn, av, cv, rfl, hjn, HDI⟩ := hrel
  by_cases hlt : jn < pn
  · have hjp : jn < ps.length := by rw [← HPN.out]; exact hlt
    obtain ⟨b, o, rfl, hb, hcc⟩ := HPS.out (by omega)
    have hcell := fun i (hi : i < 8) => (HDI.out.bel.cell (p := ⟨b, o + jn * 8 + i, none⟩) hb).trans (hcc jn hjp i hi)
    have HTK := Lib.hid (List.take_succ_eq_append_getElem hjp)
    generalize ps[jn] = p at *
    obtain ⟨p0, p1, p2, p3, p4, p5, p6, p7⟩ := p
    have c0 := hcell 0 (by omega)
    have c1 := hcell 1 (by omega)
    have c2 := hcell 2 (by omega)
    have c3 := hcell 3 (by omega)
    have c4 := hcell 4 (by omega)
    have c5 := hcell 5 (by omega)
    have c6 := hcell 6 (by omega)
    have c7 := hcell 7 (by omega)
    simp [pstC] at c0 c1 c2 c3 c4 c5 c6 c7
    have hwj : IntKind.i64.wrap ((jn : Int) + 1) = (jn : Int) + 1 := IntWalk.i64_in _ (by omega)
    have hj0 : (0 : Int) ≤ (jn : Int) := by omega
    have hj1 : (jn : Int) < (pn : Int) := by omega
    obtain ⟨w8, hw8⟩ : ∃ W, W = wr.alloc (.cells #[.int .i64 p0, .int .i64 p1, .int .i64 p2, .int .i64 p3, .int .i64 p4, .int .i64 p5, .int .i64 p6, .int .i64 p7] 55) := ⟨_, rfl⟩
    obtain ⟨bY, hbY⟩ : ∃ q, q = wr.heap.size := ⟨_, rfl⟩
    have hb8 : Below wr.heap.size wr w8 := by rw [hw8]; exact below_alloc _ _
    have HY8 : Hid (w8.heap[bY]? = some (.cells #[.int .i64 p0, .int .i64 p1, .int .i64 p2, .int .i64 p3, .int .i64 p4, .int .i64 p5, .int .i64 p6, .int .i64 p7] 55 (0, 0))) := Lib.hid (by rw [hw8, hbY]; exact heap_alloc_new _ _)
    have HD8 := Lib.hid (HDI.out.below hb8)
    have HW8 := Lib.hid hw8
    have HBY := Lib.hid hbY
    obtain ⟨J, hJ⟩ : ∃ J, J = fun W : World => Below w8.heap.size w8 W := ⟨_, rfl⟩
    have HJO : Hid (∀ W, J W → Below w8.heap.size w8 W) := Lib.hid fun W hW => by rw [hJ] at hW; exact hW
    have HJI : Hid (∀ W, Below w8.heap.size w8 W → J W) := Lib.hid fun W hW => by rw [hJ]; exact hW
    have HJD : Hid (∀ W, J W → J W.drew) := Lib.hid fun W hW => HJI.out _ ((HJO.out W hW).drew)
    have HJA : Hid (∀ W o, J W → J (W.alloc o)) := Lib.hid fun W o hW => HJI.out _ ((HJO.out W hW).alloc (HJO.out W hW).size o)
    have HJ0 : Hid (J w8) := Lib.hid (HJI.out _ (Below.refl _ _))
    have HJW : Hid (∀ W, J W → w5.heap.size ≤ W.heap.size) := Lib.hid fun W hW => Nat.le_trans HD8.out.bel.size (HJO.out W hW).size
    have HDW : Hid (∀ W, J W → DI w5 bD cy cf (.slice av jn cv) jn ((ps.take jn).map turnP) W) := Lib.hid fun W hW => HD8.out.below (HJO.out W hW)
    have HMD : Hid (∀ W, J W → ∀ i, W.cell? ⟨bD, i, none⟩ = #[.int .i64 cy, .int .i64 cf, .slice av jn cv][i]?) := Lib.hid fun W hW i => obj_cell (HDW.out W hW).box i
    have HMY : Hid (∀ W, J W → ∀ i, W.cell? ⟨bY, i, none⟩ = #[.int .i64 p0, .int .i64 p1, .int .i64 p2, .int .i64 p3, .int .i64 p4, .int .i64 p5, .int .i64 p6, .int .i64 p7][i]?) := Lib.hid fun W hW i => obj_cell (obj_below HY8.out (HJO.out W hW)) i
    have HOW : Hid (∀ W, J W → W.ownsRow w5.heap.size 55 8 (.slice av jn cv) jn (cellsL pstC ((ps.take jn).map turnP))) := Lib.hid fun W hW => (HDW.out W hW).row
    have HTU : Hid (∀ W, J W → Calls Try.prog 19 #[.agg #[.int .i64 p0, .int .i64 p1, .int .i64 p2, .int .i64 p3, .int .i64 p4, .int .i64 p5, .int .i64 p6, .int .i64 p7], .int .i64 p0, .int .i64 p1] W fun e w' => e = .returned (.agg #[.int .i64 p0, .int .i64 p1, .int .i64 p2, .int .i64 p4, .int .i64 p3, .int .i64 p5, .int .i64 p6, .int .i64 p7]) ∧ J w' ∧ Below W.heap.size W w') := Lib.hid fun W hW => (rgTurn_any ⟨p0, p1, p2, p3, p4, p5, p6, p7⟩ p0 p1 W).mono fun e w' ⟨h1, h2⟩ => ⟨h1, HJI.out _ ((HJO.out W hW).trans (h2.mono (HJO.out W hW).size)), h2⟩
    have HONE : Hid (∀ u ∈ ([.int .i64 p0, .int .i64 p1, .int .i64 p2, .int .i64 p4, .int .i64 p3, .int .i64 p5, .int .i64 p6, .int .i64 p7] : List Value), u.oneCell' = true) := Lib.hid (pstF.one ⟨p0, p1, p2, p4, p3, p5, p6, p7⟩)
    have HSN : Hid (cellsL pstC ((ps.take jn).map turnP) ++ [.int .i64 p0, .int .i64 p1, .int .i64 p2, .int .i64 p4, .int .i64 p3, .int .i64 p5, .int .i64 p6, .int .i64 p7] = cellsL pstC ((ps.take (jn + 1)).map turnP)) := Lib.hid (by
      have h1 := cellsL_snoc pstC ((ps.take jn).map turnP) ⟨p0, p1, p2, p4, p3, p5, p6, p7⟩
      rw [HTK.out, List.map_append]
      exact h1)
    obtain ⟨DB, hDB⟩ : ∃ D, D = fun W : World => Below w5.heap.size w5 W ∧ W.heap[bD]? = some (.cells #[.int .i64 cy, .int .i64 cf, .slice av jn cv] 49 (0, 0)) := ⟨_, rfl⟩
    have HKN : Hid (∀ W w', J W → W.grownBy w' (Value.ownBlock (.slice av jn cv)) → DB w') := Lib.hid fun W w' hW hg => by
      rw [hDB]
      exact (HDW.out W hW).append hg
    have HDBX : Hid (∀ W, DB W → W.heap[bD]? = some (.cells #[.int .i64 cy, .int .i64 cf, .slice av jn cv] 49 (0, 0))) := Lib.hid fun W hW => by rw [hDB] at hW; exact hW.2
    have HST : Hid (∀ W u, DB W → W.ownsRow w5.heap.size 55 8 u (jn + 1) (cellsL pstC ((ps.take (jn + 1)).map turnP)) → DI w5 bD cy cf u (jn + 1) ((ps.take (jn + 1)).map turnP) (W.setCell ⟨bD, 2, none⟩ u)) := Lib.hid fun W u hW ho => by
      rw [hDB] at hW
      exact DI.store hW.1 hW.2 ho HLD.out
    have egT := enters_of Try.func19 (by kernel_rfl) rfl
    clear hcell hcc hw8 hbY hb8 hJ hDB
    go_upto_region 9 with fail
    rw [← HW8.out, ← HBY.out]
    clear c0 c1 c2 c3 c4 c5 c6 c7
    obtain ⟨P, hP⟩ : ∃ P : Nat → Value → World → Prop, P = fun j v W => match j with | 0 => (v = .pointer (some ⟨bD, 2, none⟩)) | 1 => (v = .slice av jn cv) | 2 => (v = .agg #[.int .i64 p0, .int .i64 p1, .int .i64 p2, .int .i64 p3, .int .i64 p4, .int .i64 p5, .int .i64 p6, .int .i64 p7]) | 3 => (v = .pointer (some ⟨bY, 0, none⟩)) | 4 => (v = .int .i64 p0) | 5 => (v = .pointer (some ⟨bY, 1, none⟩)) | 6 => (v = .int .i64 p1) | 7 => (v = .agg #[.int .i64 p0, .int .i64 p1, .int .i64 p2, .int .i64 p4, .int .i64 p3, .int .i64 p5, .int .i64 p6, .int .i64 p7]) | 8 => (∃ bq, v = .slice (some ⟨bq, 0, none⟩) 1 1 ∧ W.heap[bq]? = some (.cells #[.int .i64 p0, .int .i64 p1, .int .i64 p2, .int .i64 p4, .int .i64 p3, .int .i64 p5, .int .i64 p6, .int .i64 p7] 55 (0, 0))) | _ => True := ⟨_, rfl⟩
    have HPI0 : Hid (∀ v W, P 0 v W ↔ (v = .pointer (some ⟨bD, 2, none⟩))) := Lib.hid fun v W => by rw [hP] <;> exact Iff.rfl
    have HPI1 : Hid (∀ v W, P 1 v W ↔ (v = .slice av jn cv)) := Lib.hid fun v W => by rw [hP] <;> exact Iff.rfl
    have HPI2 : Hid (∀ v W, P 2 v W ↔ (v = .agg #[.int .i64 p0, .int .i64 p1, .int .i64 p2, .int .i64 p3, .int .i64 p4, .int .i64 p5, .int .i64 p6, .int .i64 p7])) := Lib.hid fun v W => by rw [hP] <;> exact Iff.rfl
    have HPI3 : Hid (∀ v W, P 3 v W ↔ (v = .pointer (some ⟨bY, 0, none⟩))) := Lib.hid fun v W => by rw [hP] <;> exact Iff.rfl
    have HPI4 : Hid (∀ v W, P 4 v W ↔ (v = .int .i64 p0)) := Lib.hid fun v W => by rw [hP] <;> exact Iff.rfl
    have HPI5 : Hid (∀ v W, P 5 v W ↔ (v = .pointer (some ⟨bY, 1, none⟩))) := Lib.hid fun v W => by rw [hP] <;> exact Iff.rfl
    have HPI6 : Hid (∀ v W, P 6 v W ↔ (v = .int .i64 p1)) := Lib.hid fun v W => by rw [hP] <;> exact Iff.rfl
    have HPI7 : Hid (∀ v W, P 7 v W ↔ (v = .agg #[.int .i64 p0, .int .i64 p1, .int .i64 p2, .int .i64 p4, .int .i64 p3, .int .i64 p5, .int .i64 p6, .int .i64 p7])) := Lib.hid fun v W => by rw [hP] <;> exact Iff.rfl
    have HPI8 : Hid (∀ v W, P 8 v W ↔ (∃ bq, v = .slice (some ⟨bq, 0, none⟩) 1 1 ∧ W.heap[bq]? = some (.cells #[.int .i64 p0, .int .i64 p1, .int .i64 p2, .int .i64 p4, .int .i64 p3, .int .i64 p5, .int .i64 p6, .int .i64 p7] 55 (0, 0)))) := Lib.hid fun v W => by rw [hP] <;> exact Iff.rfl
    have HKP : Hid (∀ (j : Nat) v W W', Below W.heap.size W W' → P j v W → P j v W') := Lib.hid (by
      rw [hP]
      intro j v W W' hb h
      match j, h with
      | 0, h => exact h
      | 1, h => exact h
      | 2, h => exact h
      | 3, h => exact h
      | 4, h => exact h
      | 5, h => exact h
      | 6, h => exact h
      | 7, h => exact h
      | 8, ⟨bq, e, s0⟩ => exact ⟨bq, e, obj_below s0 hb⟩
      | j + 9, _ => trivial)
    clear hP
    refine wp_region_tail [36, 37, 38, 39, 40, 41, 42, 43, 44, 45, 46] (slotS [36, 37, 38, 39, 40, 41, 42, 43, 44]) (readsS [36, 37, 38, 39, 40, 41, 42, 43, 44]) (RP [36, 37, 38, 39, 40, 41, 42, 43, 44] P) J (fun j_ f W => match j_ with | 0 => (∃ bq, f 37 = .slice av jn cv ∧ f 44 = .slice (some ⟨bq, 0, none⟩) 1 1 ∧ J W ∧ W.heap[bq]? = some (.cells #[.int .i64 p0, .int .i64 p1, .int .i64 p2, .int .i64 p4, .int .i64 p3, .int .i64 p5, .int .i64 p6, .int .i64 p7] 55 (0, 0))) | 1 => (∃ uq, f 45 = uq ∧ DB W ∧ W.ownsRow w5.heap.size 55 8 (uq) (jn + 1) (cellsL pstC ((ps.take (jn + 1)).map turnP))) | 2 => (∃ uq, f 45 = uq ∧ f 46 = .pointer (some ⟨bD, 2, none⟩) ∧ DB W ∧ W.ownsRow w5.heap.size 55 8 (uq) (jn + 1) (cellsL pstC ((ps.take (jn + 1)).map turnP))) | _ => (∃ uq, DI w5 bD cy cf uq (jn + 1) ((ps.take (jn + 1)).map turnP) W)) 9 8 (by decide) (by kernel_rfl) (by kernel_rfl) (by kernel_rfl) (by kernel_rfl) (HJD.out _ HJ0.out) (fun j f q v W hq h => RP.upd hq h) ?_ ?_ ?_ ?_
    case refine_1 =>
      intro iq hiq f W hIW hdep0
      have hdep : ∀ j, depB _ iq j = true → P j (f (slotS [36, 37, 38, 39, 40, 41, 42, 43, 44] j)) W := hdep0
      clear hdep0
      generalize ha1 : putsL _ [36, 37, 38, 39, 40, 41, 42, 43, 44, 45, 46] f = a1
      match iq, hiq, hdep with
      | 0, _, hdep0 =>
        have E6 : a1.tmps[6]?.getD undef = .pointer (some ⟨bD, 0, none⟩) := by rw [← ha1]; exact (putsL_out2 _ _ _ _ (by decide)).trans rfl
        exact wpOp_val rfl rfl (v := .pointer (some ⟨bD, 2, none⟩)) (w' := W) (by simp [execOp, go_sem, E6]) ⟨hIW, fun _ h => h, _, by decide, rfl, RP.set ((HPI0.out _ _).2 rfl)⟩
      | 1, _, hdep0 =>
        have hd0 := (HPI0.out _ _).1 (hdep0 0 (by kernel_rfl))
        have E36 : a1.tmps[36]?.getD undef = .pointer (some ⟨bD, 2, none⟩) := by rw [← ha1]; exact (putsL_in2 _ _ _ _ (by decide) (show 36 < 127 from by decide)).trans hd0
        have v2 : W.cell? ⟨bD, 2, none⟩ = some (.slice av jn cv) := by simpa using HMD.out W hIW 2
        exact wpOp_val rfl rfl (v := .slice av jn cv) (w' := W) (by simp [execOp, go_sem, E36, v2]) ⟨hIW, fun _ h => h, _, by decide, rfl, RP.set ((HPI1.out _ _).2 rfl)⟩
      | 2, _, hdep0 =>
        have E8 : a1.tmps[8]?.getD undef = .pointer (some ⟨bY, 0, none⟩) := by rw [← ha1]; exact (putsL_out2 _ _ _ _ (by decide)).trans rfl
        have v0 : W.cell? ⟨bY, 0, none⟩ = some (.int .i64 p0) := by simpa using HMY.out W hIW 0
        have v1 : W.cell? ⟨bY, 1, none⟩ = some (.int .i64 p1) := by simpa using HMY.out W hIW 1
        have v2 : W.cell? ⟨bY, 2, none⟩ = some (.int .i64 p2) := by simpa using HMY.out W hIW 2
        have v3 : W.cell? ⟨bY, 3, none⟩ = some (.int .i64 p3) := by simpa using HMY.out W hIW 3
        have v4 : W.cell? ⟨bY, 4, none⟩ = some (.int .i64 p4) := by simpa using HMY.out W hIW 4
        have v5 : W.cell? ⟨bY, 5, none⟩ = some (.int .i64 p5) := by simpa using HMY.out W hIW 5
        have v6 : W.cell? ⟨bY, 6, none⟩ = some (.int .i64 p6) := by simpa using HMY.out W hIW 6
        have v7 : W.cell? ⟨bY, 7, none⟩ = some (.int .i64 p7) := by simpa using HMY.out W hIW 7
        exact wpOp_val rfl rfl (v := .agg #[.int .i64 p0, .int .i64 p1, .int .i64 p2, .int .i64 p3, .int .i64 p4, .int .i64 p5, .int .i64 p6, .int .i64 p7]) (w' := W) (by simp [execOp, go_sem, E8, v0, v1, v2, v3, v4, v5, v6, v7]) ⟨hIW, fun _ h => h, _, by decide, rfl, RP.set ((HPI2.out _ _).2 rfl)⟩
      | 3, _, hdep0 =>
        have E8 : a1.tmps[8]?.getD undef = .pointer (some ⟨bY, 0, none⟩) := by rw [← ha1]; exact (putsL_out2 _ _ _ _ (by decide)).trans rfl
        exact wpOp_val rfl rfl (v := .pointer (some ⟨bY, 0, none⟩)) (w' := W) (by simp [execOp, go_sem, E8]) ⟨hIW, fun _ h => h, _, by decide, rfl, RP.set ((HPI3.out _ _).2 rfl)⟩
      | 4, _, hdep0 =>
        have hd3 := (HPI3.out _ _).1 (hdep0 3 (by kernel_rfl))
        have E39 : a1.tmps[39]?.getD undef = .pointer (some ⟨bY, 0, none⟩) := by rw [← ha1]; exact (putsL_in2 _ _ _ _ (by decide) (show 39 < 127 from by decide)).trans hd3
        have v0 : W.cell? ⟨bY, 0, none⟩ = some (.int .i64 p0) := by simpa using HMY.out W hIW 0
        exact wpOp_val rfl rfl (v := .int .i64 p0) (w' := W) (by simp [execOp, go_sem, E39, v0]) ⟨hIW, fun _ h => h, _, by decide, rfl, RP.set ((HPI4.out _ _).2 rfl)⟩
      | 5, _, hdep0 =>
        have E8 : a1.tmps[8]?.getD undef = .pointer (some ⟨bY, 0, none⟩) := by rw [← ha1]; exact (putsL_out2 _ _ _ _ (by decide)).trans rfl
        exact wpOp_val rfl rfl (v := .pointer (some ⟨bY, 1, none⟩)) (w' := W) (by simp [execOp, go_sem, E8]) ⟨hIW, fun _ h => h, _, by decide, rfl, RP.set ((HPI5.out _ _).2 rfl)⟩
      | 6, _, hdep0 =>
        have hd5 := (HPI5.out _ _).1 (hdep0 5 (by kernel_rfl))
        have E41 : a1.tmps[41]?.getD undef = .pointer (some ⟨bY, 1, none⟩) := by rw [← ha1]; exact (putsL_in2 _ _ _ _ (by decide) (show 41 < 127 from by decide)).trans hd5
        have v1 : W.cell? ⟨bY, 1, none⟩ = some (.int .i64 p1) := by simpa using HMY.out W hIW 1
        exact wpOp_val rfl rfl (v := .int .i64 p1) (w' := W) (by simp [execOp, go_sem, E41, v1]) ⟨hIW, fun _ h => h, _, by decide, rfl, RP.set ((HPI6.out _ _).2 rfl)⟩
      | 7, _, hdep0 =>
        have hd2 := (HPI2.out _ _).1 (hdep0 2 (by kernel_rfl))
        have hd4 := (HPI4.out _ _).1 (hdep0 4 (by kernel_rfl))
        have hd6 := (HPI6.out _ _).1 (hdep0 6 (by kernel_rfl))
        have E38 : a1.tmps[38]?.getD undef = .agg #[.int .i64 p0, .int .i64 p1, .int .i64 p2, .int .i64 p3, .int .i64 p4, .int .i64 p5, .int .i64 p6, .int .i64 p7] := by rw [← ha1]; exact (putsL_in2 _ _ _ _ (by decide) (show 38 < 127 from by decide)).trans hd2
        have E40 : a1.tmps[40]?.getD undef = .int .i64 p0 := by rw [← ha1]; exact (putsL_in2 _ _ _ _ (by decide) (show 40 < 127 from by decide)).trans hd4
        have E42 : a1.tmps[42]?.getD undef = .int .i64 p1 := by rw [← ha1]; exact (putsL_in2 _ _ _ _ (by decide) (show 42 < 127 from by decide)).trans hd6
        refine wpOp_call rfl rfl (n := 19) (vs := #[.agg #[.int .i64 p0, .int .i64 p1, .int .i64 p2, .int .i64 p3, .int .i64 p4, .int .i64 p5, .int .i64 p6, .int .i64 p7], .int .i64 p0, .int .i64 p1]) (by have := egT #[.agg #[.int .i64 p0, .int .i64 p1, .int .i64 p2, .int .i64 p3, .int .i64 p4, .int .i64 p5, .int .i64 p6, .int .i64 p7], .int .i64 p0, .int .i64 p1] W; simp [execOp, E38, E40, E42, resolve, invoke, go_sem] <;> exact this) ((HTU.out W hIW).mono fun e w' hh => (by obtain ⟨rfl, hJ', hb'⟩ := hh; exact ⟨_, rfl, (HPI7.out _ _).2 rfl, hJ', hb'⟩ : ∃ v, e = .returned v ∧ (P 7 v w' ∧ J w' ∧ Below W.heap.size W w'))) ?_
        rintro v w' ⟨hv, hI', hb'⟩
        exact ⟨hI', fun j h => HKP.out j _ _ _ hb' h, _, by decide, rfl, RP.set hv⟩
      | 8, _, hdep0 =>
        have hd7 := (HPI7.out _ _).1 (hdep0 7 (by kernel_rfl))
        have E43 : a1.tmps[43]?.getD undef = .agg #[.int .i64 p0, .int .i64 p1, .int .i64 p2, .int .i64 p4, .int .i64 p3, .int .i64 p5, .int .i64 p6, .int .i64 p7] := by rw [← ha1]; exact (putsL_in2 _ _ _ _ (by decide) (show 43 < 127 from by decide)).trans hd7
        exact wpOp_val rfl rfl (v := .slice (some ⟨W.heap.size, 0, none⟩) 1 1) (w' := W.alloc (.cells #[.int .i64 p0, .int .i64 p1, .int .i64 p2, .int .i64 p4, .int .i64 p3, .int .i64 p5, .int .i64 p6, .int .i64 p7] 55)) (by simp [execOp, go_sem, E43]) ⟨(HJA.out _ _ hIW), fun j h => HKP.out j _ _ _ (below_alloc _ _) h, _, by decide, rfl, RP.set ((HPI8.out _ _).2 ⟨_, rfl, heap_alloc_new _ _⟩)⟩
      | iq + 9, h, _ => exact absurd h (by omega)
    case refine_2 =>
      intro f W hIW hR
      have h37 := (HPI1.out _ _).1 (hR 1 (by decide))
      have h44 := (HPI8.out _ _).1 (hR 8 (by decide))
      obtain ⟨bq, h44, hbq⟩ := h44
      exact ⟨bq, h37, h44, hIW, hbq⟩
    case refine_3 =>
      intro iq hsq hiq f W hIt0
      have hiq2 : iq < 12 := hiq
      have hIt := hIt0
      clear hIt0
      rcases (show iq = 9 ∨ iq = 10 ∨ iq = 11 by omega) with rfl | rfl | rfl
      · clear hsq hiq hiq2
        obtain ⟨bq, h23, h26, hIW, hbq⟩ := hIt
        refine wpOp_append rfl rfl (.tmp 37) (.tmp 44) 25 rfl w5.heap.size 55 i0 (.agg #[.int .i64 0, .int .i64 0, .int .i64 0, .int .i64 0, .int .i64 0, .int .i64 0, .int .i64 0, .int .i64 0]) 8 64 Try.underlying25 hi0 hz0 hz1 hz2 rfl (by decide) (.slice av jn cv) jn (cellsL pstC ((ps.take jn).map turnP)) ?_ (HOW.out W hIW) ⟨bq, 0, none⟩ 1 1 [.int .i64 p0, .int .i64 p1, .int .i64 p2, .int .i64 p4, .int .i64 p3, .int .i64 p5, .int .i64 p6, .int .i64 p7] ?_ rfl (obj_new_cells hbq) HONE.out (by unfold maxLen; omega) (by omega) (HJW.out W hIW) ?_
        · exact (putsL_in _ _ _ _ (by decide) (show 37 < 127 from by decide)).trans h23
        · exact (putsL_in _ _ _ _ (by decide) (show 44 < 127 from by decide)).trans h26
        · intro v' w' h2 h3
          rw [HSN.out] at h2
          have hkk := HKN.out W w' hIW h3
          exact ⟨updF f 45 v', putsL_put _ _ _ _ _ (by decide), (⟨v', updF_same _ _ _, hkk, h2⟩ : ∃ uq, updF f 45 v' 45 = uq ∧ DB w' ∧ w'.ownsRow w5.heap.size 55 8 (uq) (jn + 1) (cellsL pstC ((ps.take (jn + 1)).map turnP)))⟩
      · clear hsq hiq hiq2
        obtain ⟨uq, h27, hkn, hrw⟩ := hIt
        generalize ha1 : putsL _ [36, 37, 38, 39, 40, 41, 42, 43, 44, 45, 46] f = a1
        have EH : a1.tmps[6]?.getD undef = .pointer (some ⟨bD, 0, none⟩) := by rw [← ha1]; exact (putsL_out2 _ _ _ _ (by decide)).trans rfl
        exact wpOp_val rfl rfl (v := .pointer (some ⟨bD, 2, none⟩)) (w' := W) (by simp [execOp, go_sem, EH]) ⟨updF f 46 (.pointer (some ⟨bD, 2, none⟩)), by rw [← ha1]; exact putsL_put _ _ _ _ _ (by decide), (⟨uq, (updF_other _ _ (by decide)).trans h27, updF_same _ _ _, hkn, hrw⟩ : ∃ uq, updF f 46 (.pointer (some ⟨bD, 2, none⟩)) 45 = uq ∧ updF f 46 (.pointer (some ⟨bD, 2, none⟩)) 46 = .pointer (some ⟨bD, 2, none⟩) ∧ DB W ∧ W.ownsRow w5.heap.size 55 8 (uq) (jn + 1) (cellsL pstC ((ps.take (jn + 1)).map turnP)))⟩
      · clear hsq hiq hiq2
        obtain ⟨uq, h27, h28, hkn, hrw⟩ := hIt
        obtain ⟨au', cu', rfl, -, -⟩ := owns_gen hrw
        generalize ha1 : putsL _ [36, 37, 38, 39, 40, 41, 42, 43, 44, 45, 46] f = a1
        have E45 : a1.tmps[45]?.getD undef = .slice au' (jn + 1) cu' := by rw [← ha1]; exact (putsL_in2 _ _ _ _ (by decide) (show 45 < 127 from by decide)).trans h27
        have E46 : a1.tmps[46]?.getD undef = .pointer (some ⟨bD, 2, none⟩) := by rw [← ha1]; exact (putsL_in2 _ _ _ _ (by decide) (show 46 < 127 from by decide)).trans h28
        have hbn := HDBX.out W hkn
        have p0' := obj_cell hbn 2
        have f0 := obj_free hbn 2
        simp at p0'
        have hst := HST.out _ _ hkn hrw
        exact wpOp_skip rfl rfl (w' := W.setCell ⟨bD, 2, none⟩ (.slice au' (jn + 1) cu')) (by simp [execOp, go_sem, E45, E46, p0', f0]) ⟨f, ha1.symm, (⟨_, hst⟩ : ∃ uq, DI w5 bD cy cf uq (jn + 1) ((ps.take (jn + 1)).map turnP) (W.setCell ⟨bD, 2, none⟩ (.slice au' (jn + 1) cu')))⟩
    case refine_4 =>
      intro f W hIt
      simp only [putsL, List.foldl_cons, List.foldl_nil, Act.put, List.setIfInBounds_toArray, List.set_cons_zero, List.set_cons_succ]
      obtain ⟨uq, hkn⟩ := hIt
      obtain ⟨au', cu', rfl, -, -⟩ := owns_gen hkn.row
      have HB9 := Lib.hid hkn
      clear hkn HST HKN HOW HMD HMY HTU HSN HONE HJ0 HJD HJO HJI HJA HJW HDBX
      go_wp2
      go_roundw
      case rel => exact ⟨jn + 1, au', cu', by first | rfl | go_num, by omega, HB9⟩
      case measure => simp [RowKit.intOf]; omega
  · obtain rfl : jn = pn := by omega
    have hdt := HDI.out
    have XH_wr := Lib.hid (obj_below XH_w5.out hdt.bel)
    have A_wr := Lib.hid (A_w5.out.below hdt.bel)
    have B_wr := Lib.hid (B_w5.out.trans (hdt.bel.mono B_w5.out.size))
    have PS_wr := Lib.hid (ListAt.below PS_w5.out hdt.bel)
    have XC_wr := Lib.hid (obj_below XC_w5.out hdt.bel)
    clear XH_w5 A_w5 B_w5 PS_w5 XC_w5
    have XD_wr := Lib.hid hdt.box
    have hpd : PstsAt wr (.slice av jn cv) (ps.map turnP) := by
      have h1 := hdt.row
      rw [HPN.out, List.take_length] at h1
      refine psts_owns (base := w5.heap.size) ?_
      rw [List.length_map]
      have h2 := hdt.row
      rw [HPN.out, List.take_length, ← HPN.out] at h2
      rw [← HPN.out]
      exact h2
    have PD_wr := Lib.hid hpd
    clear hdt hpd HDI HPS
    have HCT := Lib.hid (corOk_turn HC.out)
    have HCO := Lib.hid (fun (W : World) (q : HstAt W (.slice al nl cl) (.slice ap np cp) (.slice ac nc cc) h) (hs : PstsAt W (Sli.v ⟨sa, jn, sc⟩) ps) => rsCorrect_ok HOK.out HC.out HLC.out (by have := HM.out.cnt; omega) (.slice al nl cl) (.slice ap np cp) (.slice ac nc cc) ⟨sa, jn, sc⟩ W q hs)
    have HXO : Hid (HstOk ⟨h.led, h.pres, h.cors ++ [⟨cy, cf, ps⟩]⟩) := Lib.hid (HOK.out.addC HC.out HLC.out (by have := HM.out.cnt; omega))
    have HXL : Hid ((h.cors ++ [(⟨cy, cf, ps⟩ : Cor)]).length < 20) := Lib.hid (by rw [List.length_append, List.length_singleton]; have := HM.out.cnt; omega)
    have HXF : Hid (lastF (h.cors ++ [(⟨cy, cf, ps⟩ : Cor)]) ≤ cf) := Lib.hid (by rw [lastF_snoc]; exact Int.le_refl _)
    have HYO : Hid (HstOk ⟨h.led, h.pres, (h.cors ++ [⟨cy, cf, ps⟩]) ++ [⟨cy, cf, ps.map turnP⟩]⟩) := Lib.hid (HXO.out.addC HCT.out HXF.out HXL.out)
    have HZO : Hid (HstOk ⟨[], [], [⟨cy, cf, ps⟩]⟩) := Lib.hid ((hstOk_new ldgOk_nil (by simp) (fun p hp => by simp at hp)).addC HC.out (by show (0 : Int) ≤ cf; rw [HCF.out]; omega) (by simp))
    have HCD := Lib.hid (fun (ul up uc : Value) (W : World) (q : HstAt W ul up uc ⟨h.led, h.pres, h.cors ++ [⟨cy, cf, ps⟩]⟩) (hs : PstsAt W (Sli.v ⟨av, jn, cv⟩) (ps.map turnP)) => rsCorrect_ok HXO.out HCT.out HXF.out HXL.out ul up uc ⟨av, jn, cv⟩ W q hs)
    have HYY : Hid (0 ≤ cy ∧ cy ≤ 99) := Lib.hid (by omega)
    obtain ⟨N0, hN0⟩ : ∃ q, q = effM cy h.cors := ⟨_, rfl⟩
    obtain ⟨EA, hEA⟩ : ∃ q, q = effL ps := ⟨_, rfl⟩
    have hb1 := effM_small (y := cy) HOK.out.cor
    have hb2 := effL_small (l := ps) fun p hp => ⟨(HC.out.ps p hp).ok, (HC.out.ps p hp).sm⟩
    have hb3 := HOK.out.nc
    have hb4 : (ps.length : Int) = jn := by rw [HPN.out]
    rw [← hN0] at hb1
    rw [← hEA] at hb2
    have hws : IntKind.i64.wrap (N0 + EA) = N0 + EA := IntWalk.i64_in _ (by omega)
    have HE0 : Hid (∀ W : World, HstAt W (.slice al nl cl) (.slice ap np cp) (.slice ac nc cc) h → Calls Try.prog 20 #[.agg #[.slice al nl cl, .slice ap np cp, .slice ac nc cc], .int .i64 cy] W fun e w' => e = .returned (.tuple #[.int .i64 N0, .int .i64 0]) ∧ Below W.heap.size W w') := Lib.hid fun W q => by
      rw [hN0]
      exact rsEffect_ok HOK.out HYY.out _ _ _ W q
    have HE1 : Hid (∀ (ul up uc : Value) (W : World), HstAt W ul up uc ⟨h.led, h.pres, h.cors ++ [⟨cy, cf, ps⟩]⟩ → Calls Try.prog 20 #[.agg #[ul, up, uc], .int .i64 cy] W fun e w' => e = .returned (.tuple #[.int .i64 (N0 + EA), .int .i64 0]) ∧ Below W.heap.size W w') := Lib.hid fun ul up uc W q => by
      have h1 := rsEffect_ok HXO.out HYY.out ul up uc W q
      rw [show effM cy (h.cors ++ [(⟨cy, cf, ps⟩ : Cor)]) = N0 + EA by rw [effM_snoc, hN0, hEA]; simp] at h1
      exact h1
    have HE2 : Hid (∀ (ul up uc : Value) (W : World), HstAt W ul up uc ⟨h.led, h.pres, (h.cors ++ [⟨cy, cf, ps⟩]) ++ [⟨cy, cf, ps.map turnP⟩]⟩ → Calls Try.prog 20 #[.agg #[ul, up, uc], .int .i64 cy] W fun e w' => e = .returned (.tuple #[.int .i64 N0, .int .i64 0]) ∧ Below W.heap.size W w') := Lib.hid fun ul up uc W q => by
      have h1 := rsEffect_ok HYO.out HYY.out ul up uc W q
      rw [show effM cy ((h.cors ++ [(⟨cy, cf, ps⟩ : Cor)]) ++ [⟨cy, cf, ps.map turnP⟩]) = N0 by rw [effM_snoc, effM_snoc, hN0]; simp only [if_true]; rw [effL_turn]; omega] at h1
      exact h1
    have HE3 : Hid (∀ (ul up uc : Value) (W : World), HstAt W ul up uc ⟨[], [], [⟨cy, cf, ps⟩]⟩ → Calls Try.prog 20 #[.agg #[ul, up, uc], .int .i64 cy] W fun e w' => e = .returned (.tuple #[.int .i64 EA, .int .i64 0]) ∧ Below W.heap.size W w') := Lib.hid fun ul up uc W q => by
      have h1 := rsEffect_ok HZO.out HYY.out ul up uc W q
      rw [show effM cy [(⟨cy, cf, ps⟩ : Cor)] = EA by simp [effM, hEA]] at h1
      exact h1
    clear hN0 hEA hb1 hb2 hb3 hb4 HXO HYO HZO HXL HXF HOK HM
    have hx := XH_wr.out
    have zXH0 := obj_cell hx 0
    have zXH1 := obj_cell hx 1
    have zXH2 := obj_cell hx 2
    clear hx
    have hx := XC_wr.out
    have zXC0 := obj_cell hx 0
    have zXC1 := obj_cell hx 1
    have zXC2 := obj_cell hx 2
    clear hx
    simp at zXH0 zXH1 zXH2 zXC0 zXC1 zXC2
    go_wp2_with fail
    clear zXH0 zXH1 zXH2 zXC0 zXC1 zXC2
    refine (HCO.out _ A_wr.out PS_wr.out).mono ?_
    rintro e wa ⟨ul, up, uc, rfl, hxa, hbn⟩
    have XH_wa := Lib.hid (obj_below XH_wr.out hbn)
    have A_wa := Lib.hid (A_wr.out.below hbn)
    have B_wa := Lib.hid (B_wr.out.trans (hbn.mono B_wr.out.size))
    have PS_wa := Lib.hid (ListAt.below PS_wr.out hbn)
    have XC_wa := Lib.hid (obj_below XC_wr.out hbn)
    have XD_wa := Lib.hid (obj_below XD_wr.out hbn)
    have PD_wa := Lib.hid (ListAt.below PD_wr.out hbn)
    clear XH_wr A_wr B_wr PS_wr XC_wr XD_wr PD_wr
    clear hbn
    obtain ⟨xal, xap, xac, xcl, xcp, xcc, rfl, rfl, rfl⟩ := hxa.parts
    have AX_wa := Lib.hid hxa
    obtain ⟨xnl, h1n⟩ : ∃ q, q = h.led.length := ⟨_, rfl⟩
    obtain ⟨xnp, h2n⟩ : ∃ q, q = h.pres.length := ⟨_, rfl⟩
    obtain ⟨xnc, h3n⟩ : ∃ q, q = (h.cors ++ [(⟨cy, cf, ps⟩ : Cor)]).length := ⟨_, rfl⟩
    simp only at AX_wa ⊢
    rw [← h1n, ← h2n, ← h3n] at AX_wa ⊢
    clear h1n h2n h3n hxa
    obtain ⟨wb, hwn⟩ : ∃ W, W = wa.alloc (.cells #[.slice xal xnl xcl, .slice xap xnp xcp, .slice xac xnc xcc] 31) := ⟨_, rfl⟩
    obtain ⟨bX, hbb⟩ : ∃ b, b = wa.heap.size := ⟨_, rfl⟩
    have hbn : Below wa.heap.size wa wb := by rw [hwn]; exact below_alloc _ _
    have XX_wb : Hid (wb.heap[bX]? = some (.cells #[.slice xal xnl xcl, .slice xap xnp xcp, .slice xac xnc xcc] 31 (0, 0))) := Lib.hid (by rw [hwn, hbb]; exact heap_alloc_new _ _)
    have XH_wb := Lib.hid (obj_below XH_wa.out hbn)
    have A_wb := Lib.hid (A_wa.out.below hbn)
    have B_wb := Lib.hid (B_wa.out.trans (hbn.mono B_wa.out.size))
    have PS_wb := Lib.hid (ListAt.below PS_wa.out hbn)
    have XC_wb := Lib.hid (obj_below XC_wa.out hbn)
    have XD_wb := Lib.hid (obj_below XD_wa.out hbn)
    have PD_wb := Lib.hid (ListAt.below PD_wa.out hbn)
    have AX_wb := Lib.hid (AX_wa.out.below hbn)
    clear XH_wa A_wa B_wa PS_wa XC_wa XD_wa PD_wa AX_wa
    have HW_wb := Lib.hid hwn
    have HP_bX := Lib.hid hbb
    clear hwn hbb hbn
    have hx := XX_wb.out
    have zXX0 := obj_cell hx 0
    have zXX1 := obj_cell hx 1
    have zXX2 := obj_cell hx 2
    clear hx
    have hx := XD_wb.out
    have zXD0 := obj_cell hx 0
    have zXD1 := obj_cell hx 1
    have zXD2 := obj_cell hx 2
    clear hx
    simp at zXX0 zXX1 zXX2 zXD0 zXD1 zXD2
    go_upto_region 12 with fail
    rw [← HW_wb.out, ← HP_bX.out]
    go_wp2_with fail
    clear zXX0 zXX1 zXX2 zXD0 zXD1 zXD2
    refine (HCD.out _ _ _ _ AX_wb.out PD_wb.out).mono ?_
    rintro e wc' ⟨ul, up, uc, rfl, hxa, hbn⟩
    have XH_wc' := Lib.hid (obj_below XH_wb.out hbn)
    have A_wc' := Lib.hid (A_wb.out.below hbn)
    have B_wc' := Lib.hid (B_wb.out.trans (hbn.mono B_wb.out.size))
    have PS_wc' := Lib.hid (ListAt.below PS_wb.out hbn)
    have XC_wc' := Lib.hid (obj_below XC_wb.out hbn)
    have XD_wc' := Lib.hid (obj_below XD_wb.out hbn)
    have PD_wc' := Lib.hid (ListAt.below PD_wb.out hbn)
    have AX_wc' := Lib.hid (AX_wb.out.below hbn)
    have XX_wc' := Lib.hid (obj_below XX_wb.out hbn)
    clear XH_wb A_wb B_wb PS_wb XC_wb XD_wb PD_wb AX_wb XX_wb
    clear hbn
    obtain ⟨yal, yap, yac, ycl, ycp, ycc, rfl, rfl, rfl⟩ := hxa.parts
    have AY_wc' := Lib.hid hxa
    obtain ⟨ynl, h1n⟩ : ∃ q, q = h.led.length := ⟨_, rfl⟩
    obtain ⟨ynp, h2n⟩ : ∃ q, q = h.pres.length := ⟨_, rfl⟩
    obtain ⟨ync, h3n⟩ : ∃ q, q = ((h.cors ++ [(⟨cy, cf, ps⟩ : Cor)]) ++ [(⟨cy, cf, ps.map turnP⟩ : Cor)]).length := ⟨_, rfl⟩
    simp only at AY_wc' ⊢
    rw [← h1n, ← h2n, ← h3n] at AY_wc' ⊢
    clear h1n h2n h3n hxa
    obtain ⟨wd, hwn⟩ : ∃ W, W = wc'.alloc (.cells #[.slice yal ynl ycl, .slice yap ynp ycp, .slice yac ync ycc] 31) := ⟨_, rfl⟩
    obtain ⟨bYY, hbb⟩ : ∃ b, b = wc'.heap.size := ⟨_, rfl⟩
    have hbn : Below wc'.heap.size wc' wd := by rw [hwn]; exact below_alloc _ _
    have XY_wd : Hid (wd.heap[bYY]? = some (.cells #[.slice yal ynl ycl, .slice yap ynp ycp, .slice yac ync ycc] 31 (0, 0))) := Lib.hid (by rw [hwn, hbb]; exact heap_alloc_new _ _)
    have XH_wd := Lib.hid (obj_below XH_wc'.out hbn)
    have A_wd := Lib.hid (A_wc'.out.below hbn)
    have B_wd := Lib.hid (B_wc'.out.trans (hbn.mono B_wc'.out.size))
    have PS_wd := Lib.hid (ListAt.below PS_wc'.out hbn)
    have XC_wd := Lib.hid (obj_below XC_wc'.out hbn)
    have XD_wd := Lib.hid (obj_below XD_wc'.out hbn)
    have PD_wd := Lib.hid (ListAt.below PD_wc'.out hbn)
    have AX_wd := Lib.hid (AX_wc'.out.below hbn)
    have XX_wd := Lib.hid (obj_below XX_wc'.out hbn)
    have AY_wd := Lib.hid (AY_wc'.out.below hbn)
    clear XH_wc' A_wc' B_wc' PS_wc' XC_wc' XD_wc' PD_wc' AX_wc' XX_wc' AY_wc'
    have HW_wd := Lib.hid hwn
    have HP_bYY := Lib.hid hbb
    clear hwn hbb hbn
    have hx := XH_wd.out
    have zXH0 := obj_cell hx 0
    have zXH1 := obj_cell hx 1
    have zXH2 := obj_cell hx 2
    clear hx
    have hx := XC_wd.out
    have zXC0 := obj_cell hx 0
    have zXC1 := obj_cell hx 1
    have zXC2 := obj_cell hx 2
    clear hx
    simp at zXH0 zXH1 zXH2 zXC0 zXC1 zXC2
    go_upto_region 13 with fail
    rw [← HW_wd.out, ← HP_bYY.out]
    go_wp2_with fail
    clear zXH0 zXH1 zXH2 zXC0 zXC1 zXC2
    refine (HE0.out _ A_wd.out).mono ?_
    rintro e we ⟨rfl, hbn⟩
    have XH_we := Lib.hid (obj_below XH_wd.out hbn)
    have A_we := Lib.hid (A_wd.out.below hbn)
    have B_we := Lib.hid (B_wd.out.trans (hbn.mono B_wd.out.size))
    have PS_we := Lib.hid (ListAt.below PS_wd.out hbn)
    have XC_we := Lib.hid (obj_below XC_wd.out hbn)
    have XD_we := Lib.hid (obj_below XD_wd.out hbn)
    have PD_we := Lib.hid (ListAt.below PD_wd.out hbn)
    have AX_we := Lib.hid (AX_wd.out.below hbn)
    have XX_we := Lib.hid (obj_below XX_wd.out hbn)
    have AY_we := Lib.hid (AY_wd.out.below hbn)
    have XY_we := Lib.hid (obj_below XY_wd.out hbn)
    clear XH_wd A_wd B_wd PS_wd XC_wd XD_wd PD_wd AX_wd XX_wd AY_wd XY_wd
    clear hbn
    have hx := XX_we.out
    have zXX0 := obj_cell hx 0
    have zXX1 := obj_cell hx 1
    have zXX2 := obj_cell hx 2
    clear hx
    have hx := XC_we.out
    have zXC0 := obj_cell hx 0
    have zXC1 := obj_cell hx 1
    have zXC2 := obj_cell hx 2
    clear hx
    simp at zXX0 zXX1 zXX2 zXC0 zXC1 zXC2
    go_wp2_with fail
    clear zXX0 zXX1 zXX2 zXC0 zXC1 zXC2
    refine (HE1.out _ _ _ _ AX_we.out).mono ?_
    rintro e wf ⟨rfl, hbn⟩
    have XH_wf := Lib.hid (obj_below XH_we.out hbn)
    have A_wf := Lib.hid (A_we.out.below hbn)
    have B_wf := Lib.hid (B_we.out.trans (hbn.mono B_we.out.size))
    have PS_wf := Lib.hid (ListAt.below PS_we.out hbn)
    have XC_wf := Lib.hid (obj_below XC_we.out hbn)
    have XD_wf := Lib.hid (obj_below XD_we.out hbn)
    have PD_wf := Lib.hid (ListAt.below PD_we.out hbn)
    have AX_wf := Lib.hid (AX_we.out.below hbn)
    have XX_wf := Lib.hid (obj_below XX_we.out hbn)
    have AY_wf := Lib.hid (AY_we.out.below hbn)
    have XY_wf := Lib.hid (obj_below XY_we.out hbn)
    clear XH_we A_we B_we PS_we XC_we XD_we PD_we AX_we XX_we AY_we XY_we
    clear hbn
    have hx := XY_wf.out
    have zXY0 := obj_cell hx 0
    have zXY1 := obj_cell hx 1
    have zXY2 := obj_cell hx 2
    clear hx
    have hx := XC_wf.out
    have zXC0 := obj_cell hx 0
    have zXC1 := obj_cell hx 1
    have zXC2 := obj_cell hx 2
    clear hx
    simp at zXY0 zXY1 zXY2 zXC0 zXC1 zXC2
    go_wp2_with fail
    clear zXY0 zXY1 zXY2 zXC0 zXC1 zXC2
    refine (HE2.out _ _ _ _ AY_wf.out).mono ?_
    rintro e wg ⟨rfl, hbn⟩
    have XH_wg := Lib.hid (obj_below XH_wf.out hbn)
    have A_wg := Lib.hid (A_wf.out.below hbn)
    have B_wg := Lib.hid (B_wf.out.trans (hbn.mono B_wf.out.size))
    have PS_wg := Lib.hid (ListAt.below PS_wf.out hbn)
    have XC_wg := Lib.hid (obj_below XC_wf.out hbn)
    have XD_wg := Lib.hid (obj_below XD_wf.out hbn)
    have PD_wg := Lib.hid (ListAt.below PD_wf.out hbn)
    have AX_wg := Lib.hid (AX_wf.out.below hbn)
    have XX_wg := Lib.hid (obj_below XX_wf.out hbn)
    have AY_wg := Lib.hid (AY_wf.out.below hbn)
    have XY_wg := Lib.hid (obj_below XY_wf.out hbn)
    clear XH_wf A_wf B_wf PS_wf XC_wf XD_wf PD_wf AX_wf XX_wf AY_wf XY_wf
    clear hbn
    obtain ⟨wh, hwh⟩ : ∃ W, W = wg.alloc (.cells #[.int .i64 cy, .int .i64 cf, .slice sa jn sc] 49) := ⟨_, rfl⟩
    have hbh : Below wg.heap.size wg wh := by rw [hwh]; exact below_alloc _ _
    have hxh : wh.heap[wg.heap.size]? = some (.cells #[.int .i64 cy, .int .i64 cf, .slice sa jn sc] 49 (0, 0)) := by rw [hwh]; exact heap_alloc_new _ _
    have HZA : Hid (HstAt wh (.slice none 0 0) (.slice none 0 0) (.slice (some ⟨wg.heap.size, 0, none⟩) 1 1) ⟨[], [], [⟨cy, cf, ps⟩]⟩) := Lib.hid (by
      have hrow : wh.ownsRow wg.heap.size 49 3 (.slice (some ⟨wg.heap.size, 0, none⟩) 1 1) 1 (cellsL crrC [⟨cy, cf, ⟨sa, jn, sc⟩⟩]) := ⟨rfl, .inr ⟨wg.heap.size, 1, _, rfl, Nat.le_refl _, hxh, Nat.le_refl _, by decide, rfl, rfl⟩⟩
      refine ⟨⟨rfl, none, 0, rfl, Nat.le_refl _, Or.inl rfl⟩, ⟨rfl, none, 0, rfl, Nat.le_refl _, Or.inl rfl⟩, [⟨cy, cf, ⟨sa, jn, sc⟩⟩], ?_, ⟨rfl, rfl, ListAt.below PS_wg.out hbh⟩, trivial⟩
      unfold ListAt
      exact RowG.owns hrow)
    have HXCH := Lib.hid (obj_below XC_wg.out hbh)
    have HBH9 := Lib.hid (B_wg.out.trans (hbh.mono B_wg.out.size))
    have HWH := Lib.hid hwh
    have hxc9 := HXCH.out
    have zc0 := obj_cell hxc9 0
    have zc1 := obj_cell hxc9 1
    have zc2 := obj_cell hxc9 2
    simp at zc0 zc1 zc2
    rw [hwh] at zc0 zc1 zc2
    have hxg := XC_wg.out
    have zg0 := obj_cell hxg 0
    have zg1 := obj_cell hxg 1
    have zg2 := obj_cell hxg 2
    simp at zg0 zg1 zg2
    clear hwh hbh hxh hxc9 hxg
    go_wp2_with fail
    rw [← HWH.out]
    refine (HE3.out _ _ _ _ HZA.out).mono ?_
    rintro e wi ⟨rfl, hbi⟩
    have HBI := Lib.hid (HBH9.out.trans (hbi.mono HBH9.out.size))
    clear hbi zc0 zc1 zc2 zg0 zg1 zg2
    go_wp2_with fail
    refine (sane44_true _).mono ?_
    rintro e wj ⟨rfl, hbj⟩
    have HBJ := Lib.hid (HBI.out.trans (hbj.mono HBI.out.size))
    clear hbj
    go_wp2
    go_ret
    exact ⟨rfl, HBJ.out⟩

end Go.Proofs.Ytoccnindkimjdaa
