/- accrual.Reopen of right books: what a closing has left to be turned is turned on the next day. -/
import Derived.Test.YtknmgkjfopoinaaGreatDoorMG8
import Derived.Test.YtknmgkjfopoinaaGreatDoorMClnPst
import Derived.Test.YtknmgkjfopoinaaGreatDoorMRegW
set_option linter.unusedSimpArgs false
set_option linter.unusedVariables false
set_option linter.unusedSimpArgs false
set_option linter.unusedVariables false
namespace Go.Proofs.YtknmgkjfopoinaaGreatDoor
open Go.RowKit Go.Lib Go.Proofs

theorem numT_app (d : Int) : ∀ (n : Int) (l m : List Pst), numT n d (l ++ m) = numT n d l ++ numT (n + (l.length : Int)) d m
  | n, [], m => by simp [numT]
  | n, p :: l, m => by
    rw [List.cons_append, numT, numT_app d (n + 1) l m, numT, List.cons_append, List.length_cons]
    have : n + 1 + (l.length : Int) = n + ((l.length + 1 : Nat) : Int) := by omega
    rw [this]
/-- The books behind the first k postings of the loop. -/
def accT (l : List Pst) (e d : Int) (k : Nat) : List Pst := l ++ numT l.length (d + 1) (pickT e d (l.take k))
theorem accT_zero (l : List Pst) (e d : Int) : accT l e d 0 = l := by simp [accT, pickT, numT]
theorem accT_full (l : List Pst) (e d : Int) : accT l e d l.length = turnM l e d := by unfold accT turnM; rw [List.take_length]
theorem accT_len (l : List Pst) (e d : Int) (k : Nat) : (accT l e d k).length ≤ l.length + l.length := by
  unfold accT
  rw [List.length_append, numT_len]
  have h1 : (pickT e d (l.take k)).length ≤ (l.take k).length := List.length_filter_le _ _
  have h2 : (l.take k).length ≤ l.length := by rw [List.length_take]; omega
  omega
theorem accT_skip {l : List Pst} {e d : Int} {k : Nat} (hk : k < l.length) (h : (decide (l[k].ent = e) && decide (l[k].day = d) && decide (l[k].ref = 1000000)) = false) : accT l e d (k + 1) = accT l e d k := by
  unfold accT
  rw [List.take_succ_eq_append_getElem hk, pickT_app]
  have : pickT e d [l[k]] = [] := by unfold pickT; rw [List.filter_cons, h]; rfl
  rw [this, List.append_nil]
theorem accT_take {l : List Pst} {e d : Int} {k : Nat} (hk : k < l.length) (h : (decide (l[k].ent = e) && decide (l[k].day = d) && decide (l[k].ref = 1000000)) = true) : accT l e d (k + 1) = accT l e d k ++ [⟨((accT l e d k).length : Int) + 1, d + 1, l[k].ent, l[k].crd, l[k].deb, l[k].amt, l[k].par, l[k].ref⟩] := by
  have hl : ((accT l e d k).length : Int) = (l.length : Int) + ((pickT e d (l.take k)).length : Int) := by
    unfold accT
    rw [List.length_append, numT_len]
    omega
  rw [hl]
  unfold accT
  rw [List.take_succ_eq_append_getElem hk, pickT_app]
  have : pickT e d [l[k]] = [l[k]] := by unfold pickT; rw [List.filter_cons, h]; rfl
  rw [this, numT_app, numT, numT, List.append_assoc]
/-- A world within Reopen: all that was there is as it was, and three boxes. -/
structure DoneR (w : World) (b3 b6 b9 n0 : Nat) (al : Option Addr) (capl : Nat) (W : World) : Prop where
  old : Below w.heap.size w W
  b3 : W.heap[b3]? = some (.cells #[.slice al n0 capl] 27 (0, 0))
  b6 : W.heap[b6]? = some (.cells #[.slice none 0 0] 27 (0, 0))

set_option maxRecDepth 100000 in
set_option maxHeartbeats 16000000 in
theorem aaReopen_right {l : List Pst} (h : LdgOk l) {ent d : Int} (he : 1 ≤ ent ∧ ent ≤ 10) (hd : 0 ≤ d ∧ d < 36000) (hday : (lastP l).day ≤ d + 1) (hlen : 2 * l.length ≤ 400) (vl : Value) (w : World) (hvl : PstsAt w vl l) :
    Calls Tryz.prog 16 #[.agg #[vl], .int .i64 ent, .int .i64 d] w fun en w' => ∃ v, en = .returned (.tuple #[.agg #[v], .int .i64 0]) ∧ PstsAt w' v (turnM l ent d) ∧ Below w.heap.size w w' := by
  obtain ⟨i0, hi0, hz0, hz1, hz2⟩ := info_parts Tryz.infoDfP
  obtain ⟨al, capl, rfl, hcapl, hcs⟩ := hvl.shape pstF
  have HCS := Lib.hid hcs
  have HCK := Lib.hid (fun W (hW : Below w.heap.size w W) => lgCheck_right h (.slice al l.length capl) W (hvl.below hW))
  have HLD := Lib.hid (fun W (hW : Below w.heap.size w W) => aalastDay_any l (.slice al l.length capl) W (hvl.below hW) (by omega))
  have HCN := Lib.hid (fun W (hW : Below w.heap.size w W) => clonePst_any pstC pstF l (.slice al l.length capl) W (hvl.below hW) (by omega))
  have HAL := Lib.hid (accT_len l ent d)
  have HAF := Lib.hid (accT_full l ent d)
  have HAZ := Lib.hid (accT_zero l ent d)
  obtain ⟨L, hTM⟩ : ∃ L, L = turnM l ent d := ⟨_, rfl⟩
  rw [← hTM] at HAF ⊢
  clear hTM
  obtain ⟨n0, hn0⟩ : ∃ n, n = l.length := ⟨_, rfl⟩
  obtain ⟨ld, hld⟩ : ∃ n, n = (lastP l).day := ⟨_, rfl⟩
  rw [← hn0] at hlen HCK HLD HCN HAL HAF ⊢
  rw [← hld] at HLD hday
  have HN0 := Lib.hid hn0
  have hwd : IntKind.i64.wrap (d + 1) = d + 1 := IntWalk.i64_in _ (by omega)
  have hdl : ¬ d + 1 < ld := by omega
  obtain ⟨w0, hw0⟩ : ∃ W, W = (w.alloc (.cells #[.slice al n0 capl] 27)).alloc (.cells #[.slice none 0 0] 27) := ⟨_, rfl⟩
  obtain ⟨b3, hb3⟩ : ∃ q, q = w.heap.size := ⟨_, rfl⟩
  obtain ⟨b6, hb6⟩ : ∃ q, q = w.heap.size + 1 := ⟨_, rfl⟩
  have HB0 : Hid (Below w.heap.size w w0) := Lib.hid (by rw [hw0]; exact below2 w _ _)
  have HX0 : Hid (w0.heap[b3]? = some (.cells #[.slice al n0 capl] 27 (0, 0))) := Lib.hid (by rw [hw0, hb3]; exact alloc1_at w _ _)
  have HY0 : Hid (w0.heap[b6]? = some (.cells #[.slice none 0 0] 27 (0, 0))) := Lib.hid (by rw [hw0, hb6]; exact alloc2_at w _ _)
  have HW0 := Lib.hid hw0
  have HX := Lib.hid hb3
  have HY := Lib.hid hb6
  have hx := HX0.out
  have a0 := obj_cell hx 0
  simp at a0
  clear h hvl hcs hn0 hld hw0 hb3 hb6 hx
  go_enter Tryz.func16, Tryz.ntmps16
  go_upto_region 1 with fail
  rw [← HW0.out, ← HY.out, ← HX.out]
  go_wp2_with fail
  clear a0
  refine (HCK.out _ HB0.out).mono ?_
  rintro en w1 ⟨rfl, hb1⟩
  have HB1 := Lib.hid (HB0.out.trans (hb1.mono HB0.out.size))
  have HX1 := Lib.hid (obj_below HX0.out hb1)
  have HY1 := Lib.hid (obj_below HY0.out hb1)
  have hx := HX1.out
  have a0 := obj_cell hx 0
  simp at a0
  clear hb1 hx HX0 HY0 HB0 HW0
  go_wp2_with fail
  refine (aaisEntity_yes _ he.1 he.2).mono ?_
  rintro en w' ⟨rfl, rfl⟩
  go_wp2_with fail
  refine (aawithin_yes _ hd.1 (by omega)).mono ?_
  rintro en w' ⟨rfl, rfl⟩
  obtain ⟨w2, hw2⟩ : ∃ x, x = w1 := ⟨_, rfl⟩
  rw [← hw2] at HB1 HX1 HY1 a0 ⊢
  clear hw2
  go_wp2_with fail
  clear a0
  refine (HLD.out _ HB1.out).mono ?_
  rintro en w3 ⟨rfl, hb3⟩
  have HB3 := Lib.hid (HB1.out.trans (hb3.mono HB1.out.size))
  have HX3 := Lib.hid (obj_below HX1.out hb3)
  have HY3 := Lib.hid (obj_below HY1.out hb3)
  have hx := HX3.out
  have a0 := obj_cell hx 0
  simp at a0
  clear hb3 hx HX1 HY1 HB1
  go_wp2_with fail
  clear a0
  refine (HCN.out _ HB3.out).mono ?_
  rintro en w4 ⟨v4, rfl, hown4, hb4⟩
  obtain ⟨a4, c4, rfl, hc4, -⟩ := owns_gen hown4
  obtain ⟨b9, hb9⟩ : ∃ z, z = w4.heap.size := ⟨_, rfl⟩
  obtain ⟨w5, hw5⟩ : ∃ W, W = w4.alloc (.cells #[.slice a4 n0 c4] 27) := ⟨_, rfl⟩
  have hb45 : Below w4.heap.size w4 w5 := by rw [hw5]; exact below_alloc _ _
  have HB5 := Lib.hid ((HB3.out.trans (hb4.mono HB3.out.size)).trans (hb45.mono (HB3.out.trans (hb4.mono HB3.out.size)).size))
  have HD5 : Hid (DoneR w b3 b6 b9 n0 al capl w5) := Lib.hid ⟨HB5.out, obj_below (obj_below HX3.out hb4) hb45, obj_below (obj_below HY3.out hb4) hb45⟩
  have H95 : Hid (w5.heap[b9]? = some (.cells #[.slice a4 n0 c4] 27 (0, 0))) := Lib.hid (by rw [hw5, hb9]; exact heap_alloc_new _ _)
  have hO5 := ownsRow_mono (ownsRow_below hown4 hb45) HB3.out.size
  have HO5 : Hid (w5.ownsRow w.heap.size 57 8 (.slice a4 n0 c4) (accT l ent d 0).length (cellsL pstC (accT l ent d 0))) := Lib.hid (by rw [HAZ.out, ← HN0.out]; exact hO5)
  have HL5 : Hid (n0 = (accT l ent d 0).length) := Lib.hid (by rw [HAZ.out]; exact HN0.out)
  have HNE : Hid (b3 ≠ b6 ∧ b3 ≠ b9 ∧ b6 ≠ b9 ∧ w.heap.size ≤ b9) := Lib.hid (by have h1 := obj_lt HX3.out; have h2 := obj_lt HY3.out; have h3 := HX.out; have h4 := HY.out; have h5 := hb4.size; refine ⟨by omega, by omega, by omega, by omega⟩)
  have hx := HD5.out.b3
  have a0 := obj_cell hx 0
  simp at a0
  have HW5 := Lib.hid hw5
  have HB9 := Lib.hid hb9
  clear hb4 hown4 hb45 hO5 hx hw5 hb9 HX3 HY3 HB3 HCN HLD HCK
  go_upto_region 9 with fail
  rw [← HW5.out, ← HB9.out]
  go_wp2
  go_loopw [42] (fun iv wr => ∃ (k : Nat) (aV : Option Addr) (nV cV : Nat), iv = .int .i64 k ∧ k ≤ n0 ∧ Hid (DoneR w b3 b6 b9 n0 al capl wr) ∧ Hid (nV = (accT l ent d k).length ∧ wr.heap[b9]? = some (.cells #[.slice aV nV cV] 27 (0, 0))) ∧ Hid (wr.ownsRow w.heap.size 57 8 (.slice aV nV cV) (accT l ent d k).length (cellsL pstC (accT l ent d k)))) (fun iv _ => n0 - (RowKit.intOf iv).toNat)
  case atStart => exact ⟨0, a4, n0, c4, rfl, by omega, HD5, Lib.hid ⟨HL5.out, H95.out⟩, HO5⟩
  case round =>
    clear HD5 H95 HO5 HL5 HB5 HW5 a0
    obtain ⟨k, aV, nV, cV, rfl, hkn, HDR, HLY, HOW⟩ := hrel
    by_cases hlt : k < n0
    · have hkl : k < l.length := by rw [← HN0.out]; exact hlt
      obtain ⟨bS, oS, rfl, hbS, hcc⟩ := HCS.out (by omega)
      have hcell := fun q (hq : q < 8) => (HDR.out.old.cell (p := ⟨bS, oS + k * 8 + q, none⟩) hbS).trans (hcc k hkl q hq)
      have HTK := Lib.hid (accT_take (l := l) (e := ent) (d := d) (k := k) hkl)
      have HSK := Lib.hid (accT_skip (l := l) (e := ent) (d := d) (k := k) hkl)
      have hal := HAL.out k
      have hO := HOW.out
      have hLY := HLY.out
      obtain ⟨LK, hL⟩ : ∃ L, L = accT l ent d k := ⟨_, rfl⟩
      have HLL := Lib.hid hL
      rw [← hL] at hal hO hLY HTK HSK
      rw [← hLY.1] at hal hO HTK
      have HOW := Lib.hid hO
      have HL9 := Lib.hid hLY.2
      have HNV := Lib.hid hLY.1
      clear hL hO hLY HLY HAL HAZ
      generalize l[k] = x at *
      obtain ⟨x0, x1, x2, x3, x4, x5, x6, x7⟩ := x
      simp only at HTK HSK
      have c0 : wr.cell? ⟨bS, oS + k * 8, none⟩ = some (.int .i64 x0) := hcell 0 (by omega)
      have c1 : wr.cell? ⟨bS, oS + k * 8 + 1, none⟩ = some (.int .i64 x1) := hcell 1 (by omega)
      have c2 : wr.cell? ⟨bS, oS + k * 8 + 2, none⟩ = some (.int .i64 x2) := hcell 2 (by omega)
      have c3 : wr.cell? ⟨bS, oS + k * 8 + 3, none⟩ = some (.int .i64 x3) := hcell 3 (by omega)
      have c4 : wr.cell? ⟨bS, oS + k * 8 + 4, none⟩ = some (.int .i64 x4) := hcell 4 (by omega)
      have c5 : wr.cell? ⟨bS, oS + k * 8 + 5, none⟩ = some (.int .i64 x5) := hcell 5 (by omega)
      have c6 : wr.cell? ⟨bS, oS + k * 8 + 6, none⟩ = some (.int .i64 x6) := hcell 6 (by omega)
      have c7 : wr.cell? ⟨bS, oS + k * 8 + 7, none⟩ = some (.int .i64 x7) := hcell 7 (by omega)
      have hk0 : (0 : Int) ≤ (k : Int) := by omega
      have hk1 : (k : Int) < (n0 : Int) := by omega
      have hwk : IntKind.i64.wrap ((k : Int) + 1) = (k : Int) + 1 := IntWalk.i64_in _ (by omega)
      have hnv4 : nV ≤ 400 := by omega
      have hwn : IntKind.i64.wrap ((nV : Int) + 1) = (nV : Int) + 1 := IntWalk.i64_in _ (by omega)
      obtain ⟨w8, hw8⟩ : ∃ W, W = wr.alloc (.cells #[.int .i64 x0, .int .i64 x1, .int .i64 x2, .int .i64 x3, .int .i64 x4, .int .i64 x5, .int .i64 x6, .int .i64 x7] 57) := ⟨_, rfl⟩
      obtain ⟨bP, hbP⟩ : ∃ q, q = wr.heap.size := ⟨_, rfl⟩
      have HP8 : Hid (w8.heap[bP]? = some (.cells #[.int .i64 x0, .int .i64 x1, .int .i64 x2, .int .i64 x3, .int .i64 x4, .int .i64 x5, .int .i64 x6, .int .i64 x7] 57 (0, 0))) := Lib.hid (by rw [hw8, hbP]; exact heap_alloc_new _ _)
      have hb8 : Below wr.heap.size wr w8 := by rw [hw8]; exact below_alloc _ _
      have HB8 : Hid (Below w.heap.size w w8) := Lib.hid (HDR.out.old.trans (hb8.mono HDR.out.old.size))
      have HD8 : Hid (DoneR w b3 b6 b9 n0 (some ⟨bS, oS, none⟩) capl w8) := Lib.hid ⟨HB8.out, obj_below HDR.out.b3 hb8, obj_below HDR.out.b6 hb8⟩
      have H98 : Hid (w8.heap[b9]? = some (.cells #[.slice aV nV cV] 27 (0, 0))) := Lib.hid (obj_below HL9.out hb8)
      have HO8 : Hid (w8.ownsRow w.heap.size 57 8 (.slice aV nV cV) nV (cellsL pstC LK)) := Lib.hid (ownsRow_below HOW.out hb8)
      have HVP : Hid (∀ q, (Value.slice aV nV cV).ownBlock = some q → w.heap.size ≤ q ∧ q < bP) := Lib.hid fun q hq => by rw [hbP]; exact HOW.out.lt q hq
      have HW8 := Lib.hid hw8
      have HBP := Lib.hid hbP
      have hp := HP8.out
      have z1 := obj_cell hp 1
      have z2 := obj_cell hp 2
      have z7 := obj_cell hp 7
      simp at z1 z2 z7
      clear hw8 hbP hb8 hcell hcc hp HDR HL9 HOW
      by_cases hpk : (decide (x2 = ent) && decide (x1 = d) && decide (x7 = 1000000)) = true
      · have hacc := HTK.out hpk
        simp only [Bool.and_eq_true, decide_eq_true_eq] at hpk
        obtain ⟨⟨h2, h1⟩, rfl⟩ := hpk
        obtain rfl := h2.symm
        obtain rfl := h1.symm
        clear h2 h1
        obtain ⟨CL, hCL⟩ : ∃ C, C = cellsL pstC LK := ⟨_, rfl⟩
        rw [← hCL] at HO8
        have HVB : Hid (∀ q, w8.heap.size ≤ q → some q ≠ (Value.slice aV nV cV).ownBlock) := Lib.hid fun q hq e => by have h3 := HVP.out q e.symm; have h4 := obj_lt HP8.out; omega
        have HN9 : Hid (some b9 ≠ (Value.slice aV nV cV).ownBlock ∧ some b3 ≠ (Value.slice aV nV cV).ownBlock ∧ some b6 ≠ (Value.slice aV nV cV).ownBlock ∧ some bP ≠ (Value.slice aV nV cV).ownBlock) := Lib.hid ⟨own_ne2 HO8.out H98.out (by decide), own_ne2 HO8.out HD8.out.b3 (by decide), own_ne2 HO8.out HD8.out.b6 (by decide), fun e => by have h3 := HVP.out bP e.symm; omega⟩
        obtain ⟨J, hJ⟩ : ∃ J, J = fun W : World => w8.grownBy W (Value.slice aV nV cV).ownBlock := ⟨_, rfl⟩
        have HJO : Hid (∀ W, J W → w8.grownBy W (Value.slice aV nV cV).ownBlock) := Lib.hid fun W hW => by rw [hJ] at hW; exact hW
        have HJI : Hid (∀ W, w8.grownBy W (Value.slice aV nV cV).ownBlock → J W) := Lib.hid fun W hW => by rw [hJ]; exact hW
        have HJT : Hid (∀ W W', J W → W.grownBy W' (Value.slice aV nV cV).ownBlock → J W') := Lib.hid fun W W' hW h => HJI.out _ (grown_step (HJO.out W hW) h)
        have HJD : Hid (∀ W, J W → J W.drew) := Lib.hid fun W hW => HJT.out _ _ hW (grownBy_below ((Below.refl _ _).drew))
        have HJA : Hid (∀ W o, J W → J (W.alloc o)) := Lib.hid fun W o hW => HJT.out _ _ hW (grownBy_below (below_alloc _ _))
        have HJZ : Hid (∀ W, J W → w.heap.size ≤ W.heap.size) := Lib.hid fun W hW => Nat.le_trans HB8.out.size (HJO.out W hW).size
        have HJS : Hid (∀ W, J W → w8.heap.size ≤ W.heap.size) := Lib.hid fun W hW => (HJO.out W hW).size
        have HJ0 : Hid (J w8) := Lib.hid (HJI.out _ (grownBy_refl _ _))
        have HJ9 : Hid (∀ W, J W → W.heap[b9]? = some (.cells #[.slice aV nV cV] 27 (0, 0))) := Lib.hid fun W hW => ((HJO.out W hW).block b9 (obj_lt H98.out) HN9.out.1).trans H98.out
        have HM9 : Hid (∀ W, J W → ∀ q, W.cell? ⟨b9, q, none⟩ = #[.slice aV nV cV][q]?) := Lib.hid fun W hW q => obj_cell (HJ9.out W hW) q
        have HMP : Hid (∀ W, J W → ∀ q, W.cell? ⟨bP, q, none⟩ = #[.int .i64 x0, .int .i64 d, .int .i64 ent, .int .i64 x3, .int .i64 x4, .int .i64 x5, .int .i64 x6, .int .i64 1000000][q]?) := Lib.hid fun W hW q => obj_cell (((HJO.out W hW).block bP (obj_lt HP8.out) HN9.out.2.2.2).trans HP8.out) q
        have HTN : Hid (∀ W, J W → Calls Tryz.prog 38 #[.agg #[.int .i64 x0, .int .i64 d, .int .i64 ent, .int .i64 x3, .int .i64 x4, .int .i64 x5, .int .i64 x6, .int .i64 1000000], .int .i64 ((nV : Int) + 1), .int .i64 (d + 1)] W fun e w' => e = .returned (.agg #[.int .i64 ((nV : Int) + 1), .int .i64 (d + 1), .int .i64 ent, .int .i64 x4, .int .i64 x3, .int .i64 x5, .int .i64 x6, .int .i64 1000000]) ∧ J w' ∧ Below W.heap.size W w') := Lib.hid fun W hW => (lgTurn_any ⟨x0, d, ent, x3, x4, x5, x6, 1000000⟩ ((nV : Int) + 1) (d + 1) W).mono fun e w' g => ⟨g.1, HJT.out _ _ hW (grownBy_below g.2), g.2⟩
        have HOD : Hid (w8.drew.ownsRow w.heap.size 57 8 (.slice aV nV cV) nV CL) := Lib.hid (ownsRow_below HO8.out ((Below.refl _ _).drew))
        have HDN : Hid (∀ W (aX : Option Addr) (cX : Nat), J W → W.ownsRow w.heap.size 57 8 (.slice aX (nV + 1) cX) (nV + 1) (CL ++ [.int .i64 ((nV : Int) + 1), .int .i64 (d + 1), .int .i64 ent, .int .i64 x4, .int .i64 x3, .int .i64 x5, .int .i64 x6, .int .i64 1000000]) → DoneR w b3 b6 b9 n0 (some ⟨bS, oS, none⟩) capl (W.setCell ⟨b9, 0, none⟩ (.slice aX (nV + 1) cX)) ∧ (W.setCell ⟨b9, 0, none⟩ (.slice aX (nV + 1) cX)).ownsRow w.heap.size 57 8 (.slice aX (nV + 1) cX) (nV + 1) (CL ++ [.int .i64 ((nV : Int) + 1), .int .i64 (d + 1), .int .i64 ent, .int .i64 x4, .int .i64 x3, .int .i64 x5, .int .i64 x6, .int .i64 1000000])) := Lib.hid fun W aX cX hW hown => by
          have hg : W.grownBy (W.setCell ⟨b9, 0, none⟩ (.slice aX (nV + 1) cX)) (some b9) := setCell_grown _ _
          have hne := HNE.out
          have hj := HJO.out W hW
          refine ⟨⟨((HB8.out.grown hj HB8.out.size fun q e => (HVP.out q e).1).setCell hne.2.2.2 _), ?_, ?_⟩, hown.kept hg (Or.inr fun e => own_ne2 hown (HJ9.out W hW) (by decide) e.symm)⟩
          · exact (hg.block b3 (Nat.lt_of_lt_of_le (obj_lt HD8.out.b3) hj.size) (fun e => hne.2.1 (by injection e))).trans ((hj.block b3 (obj_lt HD8.out.b3) HN9.out.2.1).trans HD8.out.b3)
          · exact (hg.block b6 (Nat.lt_of_lt_of_le (obj_lt HD8.out.b6) hj.size) (fun e => hne.2.2.1 (by injection e))).trans ((hj.block b6 (obj_lt HD8.out.b6) HN9.out.2.2.1).trans HD8.out.b6)
        have HLZ : Hid (∀ (aX : Option Addr) (cX : Nat) (W : World), Hid (W.heap[b9]? = some (.cells #[.slice aX (nV + 1) cX] 27 (0, 0))) → Hid (nV + 1 = (accT l ent d (k + 1)).length ∧ W.heap[b9]? = some (.cells #[.slice aX (nV + 1) cX] 27 (0, 0)))) := Lib.hid fun aX cX W hW => Lib.hid ⟨by rw [hacc, List.length_append, ← HNV.out]; rfl, hW.out⟩
        have HRW : Hid (∀ (aX : Option Addr) (cX : Nat) (W : World), Hid (W.ownsRow w.heap.size 57 8 (.slice aX (nV + 1) cX) (nV + 1) (CL ++ [.int .i64 ((nV : Int) + 1), .int .i64 (d + 1), .int .i64 ent, .int .i64 x4, .int .i64 x3, .int .i64 x5, .int .i64 x6, .int .i64 1000000])) → Hid (W.ownsRow w.heap.size 57 8 (.slice aX (nV + 1) cX) (accT l ent d (k + 1)).length (cellsL pstC (accT l ent d (k + 1))))) := Lib.hid fun aX cX W hW => Lib.hid (by
          rw [hacc, List.length_append, ← HNV.out, ← cellsL_snoc, ← hCL]
          exact hW.out)
        have egT := enters_of Tryz.func38 (by kernel_rfl) rfl
        clear hJ hCL hacc HTK HSK HO8 HP8 HNV HVP HJI
        go_upto_region 12 with fail
        rw [← HW8.out, ← HBP.out]
        clear c0 c1 c2 c3 c4 c5 c6 c7
        go_upto_region 13 with fail
        obtain ⟨P, hP⟩ : ∃ P : Nat → Value → World → Prop, P = fun j v W => match j with | 0 => (v = .pointer (some ⟨b9, 0, none⟩)) | 1 => (v = .slice aV nV cV) | 2 => (v = .agg #[.int .i64 x0, .int .i64 d, .int .i64 ent, .int .i64 x3, .int .i64 x4, .int .i64 x5, .int .i64 x6, .int .i64 1000000]) | 3 => (v = .pointer (some ⟨b9, 0, none⟩)) | 4 => (v = .slice aV nV cV) | 5 => (v = .int .i64 (nV : Int)) | 6 => (v = .int .i64 ((nV : Int) + 1)) | 7 => (v = .int .i64 d) | 8 => (v = .int .i64 (d + 1)) | 9 => (v = .agg #[.int .i64 ((nV : Int) + 1), .int .i64 (d + 1), .int .i64 ent, .int .i64 x4, .int .i64 x3, .int .i64 x5, .int .i64 x6, .int .i64 1000000]) | 10 => (∃ bq, v = .slice (some ⟨bq, 0, none⟩) 1 1 ∧ W.heap[bq]? = some (.cells #[.int .i64 ((nV : Int) + 1), .int .i64 (d + 1), .int .i64 ent, .int .i64 x4, .int .i64 x3, .int .i64 x5, .int .i64 x6, .int .i64 1000000] 57 (0, 0)) ∧ w8.heap.size ≤ bq) | 11 => (∃ aX cX, v = .slice aX (nV + 1) cX ∧ nV + 1 ≤ cX ∧ W.ownsRow w.heap.size 57 8 (.slice aX (nV + 1) cX) (nV + 1) (CL ++ [.int .i64 ((nV : Int) + 1), .int .i64 (d + 1), .int .i64 ent, .int .i64 x4, .int .i64 x3, .int .i64 x5, .int .i64 x6, .int .i64 1000000])) | 12 => (v = .pointer (some ⟨b9, 0, none⟩)) | _ => True := ⟨_, rfl⟩
        have HPI0 : Hid (∀ v W, P 0 v W ↔ (v = .pointer (some ⟨b9, 0, none⟩))) := Lib.hid fun v W => by rw [hP] <;> exact Iff.rfl
        have HPI1 : Hid (∀ v W, P 1 v W ↔ (v = .slice aV nV cV)) := Lib.hid fun v W => by rw [hP] <;> exact Iff.rfl
        have HPI2 : Hid (∀ v W, P 2 v W ↔ (v = .agg #[.int .i64 x0, .int .i64 d, .int .i64 ent, .int .i64 x3, .int .i64 x4, .int .i64 x5, .int .i64 x6, .int .i64 1000000])) := Lib.hid fun v W => by rw [hP] <;> exact Iff.rfl
        have HPI3 : Hid (∀ v W, P 3 v W ↔ (v = .pointer (some ⟨b9, 0, none⟩))) := Lib.hid fun v W => by rw [hP] <;> exact Iff.rfl
        have HPI4 : Hid (∀ v W, P 4 v W ↔ (v = .slice aV nV cV)) := Lib.hid fun v W => by rw [hP] <;> exact Iff.rfl
        have HPI5 : Hid (∀ v W, P 5 v W ↔ (v = .int .i64 (nV : Int))) := Lib.hid fun v W => by rw [hP] <;> exact Iff.rfl
        have HPI6 : Hid (∀ v W, P 6 v W ↔ (v = .int .i64 ((nV : Int) + 1))) := Lib.hid fun v W => by rw [hP] <;> exact Iff.rfl
        have HPI7 : Hid (∀ v W, P 7 v W ↔ (v = .int .i64 d)) := Lib.hid fun v W => by rw [hP] <;> exact Iff.rfl
        have HPI8 : Hid (∀ v W, P 8 v W ↔ (v = .int .i64 (d + 1))) := Lib.hid fun v W => by rw [hP] <;> exact Iff.rfl
        have HPI9 : Hid (∀ v W, P 9 v W ↔ (v = .agg #[.int .i64 ((nV : Int) + 1), .int .i64 (d + 1), .int .i64 ent, .int .i64 x4, .int .i64 x3, .int .i64 x5, .int .i64 x6, .int .i64 1000000])) := Lib.hid fun v W => by rw [hP] <;> exact Iff.rfl
        have HPI10 : Hid (∀ v W, P 10 v W ↔ (∃ bq, v = .slice (some ⟨bq, 0, none⟩) 1 1 ∧ W.heap[bq]? = some (.cells #[.int .i64 ((nV : Int) + 1), .int .i64 (d + 1), .int .i64 ent, .int .i64 x4, .int .i64 x3, .int .i64 x5, .int .i64 x6, .int .i64 1000000] 57 (0, 0)) ∧ w8.heap.size ≤ bq)) := Lib.hid fun v W => by rw [hP] <;> exact Iff.rfl
        have HPI11 : Hid (∀ v W, P 11 v W ↔ (∃ aX cX, v = .slice aX (nV + 1) cX ∧ nV + 1 ≤ cX ∧ W.ownsRow w.heap.size 57 8 (.slice aX (nV + 1) cX) (nV + 1) (CL ++ [.int .i64 ((nV : Int) + 1), .int .i64 (d + 1), .int .i64 ent, .int .i64 x4, .int .i64 x3, .int .i64 x5, .int .i64 x6, .int .i64 1000000]))) := Lib.hid fun v W => by rw [hP] <;> exact Iff.rfl
        have HPI12 : Hid (∀ v W, P 12 v W ↔ (v = .pointer (some ⟨b9, 0, none⟩))) := Lib.hid fun v W => by rw [hP] <;> exact Iff.rfl
        have HKP : Hid (∀ (j : Nat) v W W', Below W.heap.size W W' → P j v W → P j v W') := Lib.hid (by
          rw [hP]
          intro j v W W' hb h
          match j, h with
          | 0, h => exact h
          | 1, h => exact h
          | 2, h => exact h
          | 3, h => exact h
          | 4, h => exact h
          | 5, h => exact h
          | 6, h => exact h
          | 7, h => exact h
          | 8, h => exact h
          | 9, h => exact h
          | 10, ⟨bq, e, s0, s1⟩ => exact ⟨bq, e, obj_below s0 hb, s1⟩
          | 11, ⟨aX, cX, e, s0, s1⟩ => exact ⟨aX, cX, e, s0, ownsRow_below s1 hb⟩
          | 12, h => exact h
          | j + 13, _ => trivial)
        have HKX : Hid (∀ (j : Nat) v W W', j ≠ 11 → W.grownBy W' (Value.slice aV nV cV).ownBlock → P j v W → P j v W') := Lib.hid (by
          rw [hP]
          intro j v W W' hj hg h
          match j, hj, h with
          | 0, _, h => exact h
          | 1, _, h => exact h
          | 2, _, h => exact h
          | 3, _, h => exact h
          | 4, _, h => exact h
          | 5, _, h => exact h
          | 6, _, h => exact h
          | 7, _, h => exact h
          | 8, _, h => exact h
          | 9, _, h => exact h
          | 10, _, ⟨bq, e, s0, s1⟩ => exact ⟨bq, e, (hg.block _ (obj_lt s0) (HVB.out bq s1)).trans s0, s1⟩
          | 11, hj, _ => exact absurd rfl hj
          | 12, _, h => exact h
          | j + 13, _, _ => trivial)
        clear hP
        refine wp_region_tail2 [61, 62, 63, 64, 65, 66, 67, 68, 69, 70, 71, 72, 73] (slotS [61, 62, 63, 64, 65, 66, 67, 68, 69, 70, 71, 72, 73]) (readsS [61, 62, 63, 64, 65, 66, 67, 68, 69, 70, 71, 72, 73]) (RP [61, 62, 63, 64, 65, 66, 67, 68, 69, 70, 71, 72, 73] P) (fun b _ W => J W ∧ (b = false → W.ownsRow w.heap.size 57 8 (.slice aV nV cV) nV CL)) 11 0 (fun k f W => match k with | 0 => (∃ (aX : Option Addr) (cX : Nat), f 72 = .slice aX (nV + 1) cX ∧ f 73 = .pointer (some ⟨b9, 0, none⟩) ∧ J W ∧ W.ownsRow w.heap.size 57 8 (.slice aX (nV + 1) cX) (nV + 1) (CL ++ [.int .i64 ((nV : Int) + 1), .int .i64 (d + 1), .int .i64 ent, .int .i64 x4, .int .i64 x3, .int .i64 x5, .int .i64 x6, .int .i64 1000000])) | _ => (∃ (aX : Option Addr) (cX : Nat), Hid (DoneR w b3 b6 b9 n0 (some ⟨bS, oS, none⟩) capl W) ∧ Hid (W.heap[b9]? = some (.cells #[.slice aX (nV + 1) cX] 27 (0, 0))) ∧ Hid (W.ownsRow w.heap.size 57 8 (.slice aX (nV + 1) cX) (nV + 1) (CL ++ [.int .i64 ((nV : Int) + 1), .int .i64 (d + 1), .int .i64 ent, .int .i64 x4, .int .i64 x3, .int .i64 x5, .int .i64 x6, .int .i64 1000000])))) 13 8 (by decide) (by decide) (by decide) (by kernel_rfl) (by kernel_rfl) (by kernel_rfl) (by kernel_rfl)  ⟨HJD.out _ HJ0.out, fun _ => HOD.out⟩ (fun j f q v W hq h => RP.upd hq h) ?_ ?_ ?_ ?_
        case refine_1 =>
          intro iq hiq f W b1 c1 hIW0 hb0 hc0 hdep0
          have hIW := hIW0.1
          have hdep : ∀ j, depB _ iq j = true → P j (f (slotS [61, 62, 63, 64, 65, 66, 67, 68, 69, 70, 71, 72, 73] j)) W := hdep0
          clear hdep0
          generalize ha1 : putsL _ [61, 62, 63, 64, 65, 66, 67, 68, 69, 70, 71, 72, 73] f = a1
          match iq, hiq, hb0, hdep with
          | 0, _, hb0, hdep0 =>
            have E9 : a1.tmps[9]?.getD undef = .pointer (some ⟨b9, 0, none⟩) := by rw [← ha1]; exact (putsL_out2 _ _ _ _ (by decide)).trans rfl
            exact wpOp_val rfl rfl (v := .pointer (some ⟨b9, 0, none⟩)) (w' := W) (by simp [execOp, go_sem, E9]) ⟨⟨hIW, fun hbb => hIW0.2 (by simpa using hbb)⟩, fun _ _ h => h, _, by decide, rfl, RP.set ((HPI0.out _ _).2 rfl)⟩
          | 1, _, hb0, hdep0 =>
            have hd0 := (HPI0.out _ _).1 (hdep0 0 (by kernel_rfl))
            have E61 : a1.tmps[61]?.getD undef = .pointer (some ⟨b9, 0, none⟩) := by rw [← ha1]; exact (putsL_in2 _ _ _ _ (by decide) (show 61 < 81 from by decide)).trans hd0
            have v0 : W.cell? ⟨b9, 0, none⟩ = some (.slice aV nV cV) := by simpa using HM9.out W hIW 0
            exact wpOp_val rfl rfl (v := .slice aV nV cV) (w' := W) (by simp [execOp, go_sem, E61, v0]) ⟨⟨hIW, fun hbb => hIW0.2 (by simpa using hbb)⟩, fun _ _ h => h, _, by decide, rfl, RP.set ((HPI1.out _ _).2 rfl)⟩
          | 2, _, hb0, hdep0 =>
            have E11 : a1.tmps[11]?.getD undef = .pointer (some ⟨bP, 0, none⟩) := by rw [← ha1]; exact (putsL_out2 _ _ _ _ (by decide)).trans rfl
            have v0 : W.cell? ⟨bP, 0, none⟩ = some (.int .i64 x0) := by simpa using HMP.out W hIW 0
            have v1 : W.cell? ⟨bP, 1, none⟩ = some (.int .i64 d) := by simpa using HMP.out W hIW 1
            have v2 : W.cell? ⟨bP, 2, none⟩ = some (.int .i64 ent) := by simpa using HMP.out W hIW 2
            have v3 : W.cell? ⟨bP, 3, none⟩ = some (.int .i64 x3) := by simpa using HMP.out W hIW 3
            have v4 : W.cell? ⟨bP, 4, none⟩ = some (.int .i64 x4) := by simpa using HMP.out W hIW 4
            have v5 : W.cell? ⟨bP, 5, none⟩ = some (.int .i64 x5) := by simpa using HMP.out W hIW 5
            have v6 : W.cell? ⟨bP, 6, none⟩ = some (.int .i64 x6) := by simpa using HMP.out W hIW 6
            have v7 : W.cell? ⟨bP, 7, none⟩ = some (.int .i64 1000000) := by simpa using HMP.out W hIW 7
            exact wpOp_val rfl rfl (v := .agg #[.int .i64 x0, .int .i64 d, .int .i64 ent, .int .i64 x3, .int .i64 x4, .int .i64 x5, .int .i64 x6, .int .i64 1000000]) (w' := W) (by simp [execOp, go_sem, E11, v0, v1, v2, v3, v4, v5, v6, v7]) ⟨⟨hIW, fun hbb => hIW0.2 (by simpa using hbb)⟩, fun _ _ h => h, _, by decide, rfl, RP.set ((HPI2.out _ _).2 rfl)⟩
          | 3, _, hb0, hdep0 =>
            have E9 : a1.tmps[9]?.getD undef = .pointer (some ⟨b9, 0, none⟩) := by rw [← ha1]; exact (putsL_out2 _ _ _ _ (by decide)).trans rfl
            exact wpOp_val rfl rfl (v := .pointer (some ⟨b9, 0, none⟩)) (w' := W) (by simp [execOp, go_sem, E9]) ⟨⟨hIW, fun hbb => hIW0.2 (by simpa using hbb)⟩, fun _ _ h => h, _, by decide, rfl, RP.set ((HPI3.out _ _).2 rfl)⟩
          | 4, _, hb0, hdep0 =>
            have hd3 := (HPI3.out _ _).1 (hdep0 3 (by kernel_rfl))
            have E64 : a1.tmps[64]?.getD undef = .pointer (some ⟨b9, 0, none⟩) := by rw [← ha1]; exact (putsL_in2 _ _ _ _ (by decide) (show 64 < 81 from by decide)).trans hd3
            have v0 : W.cell? ⟨b9, 0, none⟩ = some (.slice aV nV cV) := by simpa using HM9.out W hIW 0
            exact wpOp_val rfl rfl (v := .slice aV nV cV) (w' := W) (by simp [execOp, go_sem, E64, v0]) ⟨⟨hIW, fun hbb => hIW0.2 (by simpa using hbb)⟩, fun _ _ h => h, _, by decide, rfl, RP.set ((HPI4.out _ _).2 rfl)⟩
          | 5, _, hb0, hdep0 =>
            have hd4 := (HPI4.out _ _).1 (hdep0 4 (by kernel_rfl))
            have E65 : a1.tmps[65]?.getD undef = .slice aV nV cV := by rw [← ha1]; exact (putsL_in2 _ _ _ _ (by decide) (show 65 < 81 from by decide)).trans hd4
            exact wpOp_val rfl rfl (v := .int .i64 (nV : Int)) (w' := W) (by simp [execOp, go_sem, E65]) ⟨⟨hIW, fun hbb => hIW0.2 (by simpa using hbb)⟩, fun _ _ h => h, _, by decide, rfl, RP.set ((HPI5.out _ _).2 rfl)⟩
          | 6, _, hb0, hdep0 =>
            have hd5 := (HPI5.out _ _).1 (hdep0 5 (by kernel_rfl))
            have E66 : a1.tmps[66]?.getD undef = .int .i64 (nV : Int) := by rw [← ha1]; exact (putsL_in2 _ _ _ _ (by decide) (show 66 < 81 from by decide)).trans hd5
            exact wpOp_val rfl rfl (v := .int .i64 ((nV : Int) + 1)) (w' := W) (by simp [execOp, go_sem, E66, hwn]) ⟨⟨hIW, fun hbb => hIW0.2 (by simpa using hbb)⟩, fun _ _ h => h, _, by decide, rfl, RP.set ((HPI6.out _ _).2 rfl)⟩
          | 7, _, hb0, hdep0 =>
            have E2 : a1.tmps[2]?.getD undef = .int .i64 d := by rw [← ha1]; exact (putsL_out2 _ _ _ _ (by decide)).trans rfl
            exact wpOp_val rfl rfl (v := .int .i64 d) (w' := W) (by simp [execOp, go_sem, E2]) ⟨⟨hIW, fun hbb => hIW0.2 (by simpa using hbb)⟩, fun _ _ h => h, _, by decide, rfl, RP.set ((HPI7.out _ _).2 rfl)⟩
          | 8, _, hb0, hdep0 =>
            have hd7 := (HPI7.out _ _).1 (hdep0 7 (by kernel_rfl))
            have E68 : a1.tmps[68]?.getD undef = .int .i64 d := by rw [← ha1]; exact (putsL_in2 _ _ _ _ (by decide) (show 68 < 81 from by decide)).trans hd7
            exact wpOp_val rfl rfl (v := .int .i64 (d + 1)) (w' := W) (by simp [execOp, go_sem, E68, hwd]) ⟨⟨hIW, fun hbb => hIW0.2 (by simpa using hbb)⟩, fun _ _ h => h, _, by decide, rfl, RP.set ((HPI8.out _ _).2 rfl)⟩
          | 9, _, hb0, hdep0 =>
            have hd2 := (HPI2.out _ _).1 (hdep0 2 (by kernel_rfl))
            have hd6 := (HPI6.out _ _).1 (hdep0 6 (by kernel_rfl))
            have hd8 := (HPI8.out _ _).1 (hdep0 8 (by kernel_rfl))
            have E63 : a1.tmps[63]?.getD undef = .agg #[.int .i64 x0, .int .i64 d, .int .i64 ent, .int .i64 x3, .int .i64 x4, .int .i64 x5, .int .i64 x6, .int .i64 1000000] := by rw [← ha1]; exact (putsL_in2 _ _ _ _ (by decide) (show 63 < 81 from by decide)).trans hd2
            have E67 : a1.tmps[67]?.getD undef = .int .i64 ((nV : Int) + 1) := by rw [← ha1]; exact (putsL_in2 _ _ _ _ (by decide) (show 67 < 81 from by decide)).trans hd6
            have E69 : a1.tmps[69]?.getD undef = .int .i64 (d + 1) := by rw [← ha1]; exact (putsL_in2 _ _ _ _ (by decide) (show 69 < 81 from by decide)).trans hd8
            refine wpOp_call rfl rfl (n := 38) (vs := #[.agg #[.int .i64 x0, .int .i64 d, .int .i64 ent, .int .i64 x3, .int .i64 x4, .int .i64 x5, .int .i64 x6, .int .i64 1000000], .int .i64 ((nV : Int) + 1), .int .i64 (d + 1)]) (by have := egT #[.agg #[.int .i64 x0, .int .i64 d, .int .i64 ent, .int .i64 x3, .int .i64 x4, .int .i64 x5, .int .i64 x6, .int .i64 1000000], .int .i64 ((nV : Int) + 1), .int .i64 (d + 1)] W; simp [execOp, E63, E67, E69, resolve, invoke, go_sem] <;> exact this) ((HTN.out W hIW).mono fun e w' hh => (by obtain ⟨rfl, hJ', hb'⟩ := hh; exact ⟨_, rfl, (HPI9.out _ _).2 rfl, hJ', hb'⟩ : ∃ v, e = .returned v ∧ (P 9 v w' ∧ J w' ∧ Below W.heap.size W w'))) ?_
            rintro v w' ⟨hv, hI', hb'⟩
            exact ⟨⟨hI', fun hbb => ownsRow_below (hIW0.2 (by simpa using hbb)) hb'⟩, fun j _ h => HKP.out j _ _ _ hb' h, _, by decide, rfl, RP.set hv⟩
          | 10, _, hb0, hdep0 =>
            have hd9 := (HPI9.out _ _).1 (hdep0 9 (by kernel_rfl))
            have E70 : a1.tmps[70]?.getD undef = .agg #[.int .i64 ((nV : Int) + 1), .int .i64 (d + 1), .int .i64 ent, .int .i64 x4, .int .i64 x3, .int .i64 x5, .int .i64 x6, .int .i64 1000000] := by rw [← ha1]; exact (putsL_in2 _ _ _ _ (by decide) (show 70 < 81 from by decide)).trans hd9
            exact wpOp_val rfl rfl (v := .slice (some ⟨W.heap.size, 0, none⟩) 1 1) (w' := W.alloc (.cells #[.int .i64 ((nV : Int) + 1), .int .i64 (d + 1), .int .i64 ent, .int .i64 x4, .int .i64 x3, .int .i64 x5, .int .i64 x6, .int .i64 1000000] 57)) (by simp [execOp, go_sem, E70]) ⟨⟨HJA.out _ _ hIW, fun hbb => (hIW0.2 (by simpa using hbb)).alloc _⟩, fun j _ h => HKP.out j _ _ _ (below_alloc _ _) h, _, by decide, rfl, RP.set ((HPI10.out _ _).2 ⟨_, rfl, heap_alloc_new _ _, HJS.out W hIW⟩)⟩
          | 11, _, hb0, hdep0 =>
            have hd1 := (HPI1.out _ _).1 (hdep0 1 (by kernel_rfl))
            have hd10 := (HPI10.out _ _).1 (hdep0 10 (by kernel_rfl))
            have E62 : a1.tmps[62]?.getD undef = .slice aV nV cV := by rw [← ha1]; exact (putsL_in2 _ _ _ _ (by decide) (show 62 < 81 from by decide)).trans hd1
            obtain ⟨bq, q10, r10_0, r10_1⟩ := hd10
            have E71 : a1.tmps[71]?.getD undef = .slice (some ⟨bq, 0, none⟩) 1 1 := by rw [← ha1]; exact (putsL_in2 _ _ _ _ (by decide) (show 71 < 81 from by decide)).trans q10
            have hown := hIW0.2 (hb0 rfl)
            refine wpOp_append rfl rfl (.tmp 62) (.tmp 71) 25 rfl w.heap.size 57 i0 (.agg #[.int .i64 0, .int .i64 0, .int .i64 0, .int .i64 0, .int .i64 0, .int .i64 0, .int .i64 0, .int .i64 0]) 8 64 Tryz.underlying25 hi0 hz0 hz1 hz2 rfl (by decide) (.slice aV nV cV) nV CL (by simpa [Act.eval] using E62) hown ⟨bq, 0, none⟩ 1 1 [.int .i64 ((nV : Int) + 1), .int .i64 (d + 1), .int .i64 ent, .int .i64 x4, .int .i64 x3, .int .i64 x5, .int .i64 x6, .int .i64 1000000] (by simpa [Act.eval] using E71) rfl (obj_new_cells r10_0) (pstF.one ⟨(nV : Int) + 1, d + 1, ent, x4, x3, x5, x6, 1000000⟩) (by unfold maxLen; omega) (by omega) (HJZ.out W hIW) ?_
            intro v' w' h2 h3
            obtain ⟨aX, cX, rfl, hX, -⟩ := owns_gen h2
            exact ⟨⟨HJT.out W w' hIW h3, fun hbb => by simp at hbb⟩, fun j hj h => HKX.out j _ _ _ hj h3 h, _, by decide, rfl, RP.set ((HPI11.out _ _).2 ⟨_, _, rfl, hX, h2⟩)⟩
          | 12, _, hb0, hdep0 =>
            have E9 : a1.tmps[9]?.getD undef = .pointer (some ⟨b9, 0, none⟩) := by rw [← ha1]; exact (putsL_out2 _ _ _ _ (by decide)).trans rfl
            exact wpOp_val rfl rfl (v := .pointer (some ⟨b9, 0, none⟩)) (w' := W) (by simp [execOp, go_sem, E9]) ⟨⟨hIW, fun hbb => hIW0.2 (by simpa using hbb)⟩, fun _ _ h => h, _, by decide, rfl, RP.set ((HPI12.out _ _).2 rfl)⟩
          | iq + 13, h, _, _ => exact absurd h (by omega)
        case refine_2 =>
          intro f W hIW hR
          have h72 := (HPI11.out _ _).1 (hR 11 (by decide))
          have h73 := (HPI12.out _ _).1 (hR 12 (by decide))
          obtain ⟨aX, cX, h72, hcX, hown⟩ := h72
          exact ⟨aX, cX, h72, h73, hIW.1, hown⟩
        case refine_3 =>
          intro iq hsq hiq f W hIt0
          have hiq2 : iq < 14 := hiq
          have hIt := hIt0
          clear hIt0
          rcases (show iq = 13 by omega) with rfl
          · clear hsq hiq hiq2
            obtain ⟨aX, cX, h72, h73, hIW, hown⟩ := hIt
            generalize ha1 : putsL _ [61, 62, 63, 64, 65, 66, 67, 68, 69, 70, 71, 72, 73] f = a1
            have E72 : a1.tmps[72]?.getD undef = .slice aX (nV + 1) cX := by rw [← ha1]; exact (putsL_in2 _ _ _ _ (by decide) (show 72 < 81 from by decide)).trans h72
            have E73 : a1.tmps[73]?.getD undef = .pointer (some ⟨b9, 0, none⟩) := by rw [← ha1]; exact (putsL_in2 _ _ _ _ (by decide) (show 73 < 81 from by decide)).trans h73
            have hR := HJ9.out W hIW
            have p0 := obj_cell hR 0
            have f0 := obj_free hR 0
            simp at p0
            have hg : W.grownBy (W.setCell ⟨b9, 0, none⟩ (.slice aX (nV + 1) cX)) (some b9) := setCell_grown _ _
            have hset := obj_set hR 0 (.slice aX (nV + 1) cX)
            simp only [List.setIfInBounds_toArray, List.set_cons_zero] at hset
            have hnew := HDN.out W aX cX hIW hown
            exact wpOp_skip rfl rfl (w' := W.setCell ⟨b9, 0, none⟩ (.slice aX (nV + 1) cX)) (by simp [execOp, go_sem, E72, E73, p0, f0]) ⟨f, ha1.symm, aX, cX, Lib.hid hnew.1, Lib.hid hset, Lib.hid hnew.2⟩
        case refine_4 =>
          intro f W hIt
          simp only [putsL, List.foldl_cons, List.foldl_nil, Act.put, List.setIfInBounds_toArray, List.set_cons_zero, List.set_cons_succ]
          obtain ⟨aX, cX, HDR, HB9, HOW⟩ := hIt
          go_wp2
          go_roundw
          case rel => exact ⟨k + 1, aX, nV + 1, cX, by first | rfl | go_num, by omega, HDR, HLZ.out aX cX _ HB9, HRW.out aX cX _ HOW⟩
          case measure => simp [RowKit.intOf]; omega
      · have hpf : (decide (x2 = ent) && decide (x1 = d) && decide (x7 = 1000000)) = false := by simpa using hpk
        have hacc := HSK.out hpf
        have HRX : Hid (nV = (accT l ent d (k + 1)).length ∧ w8.heap[b9]? = some (.cells #[.slice aV nV cV] 27 (0, 0))) := Lib.hid (by rw [hacc]; exact ⟨HNV.out, H98.out⟩)
        have HRY : Hid (w8.ownsRow w.heap.size 57 8 (.slice aV nV cV) (accT l ent d (k + 1)).length (cellsL pstC (accT l ent d (k + 1)))) := Lib.hid (by rw [hacc, ← HNV.out]; exact HO8.out)
        clear hacc hpk HTK HSK
        go_upto_region 12 with fail
        rw [← HW8.out, ← HBP.out]
        clear c0 c1 c2 c3 c4 c5 c6 c7
        by_cases e2 : x2 = ent
        · have e2b : (x2 == ent) = true := by rw [beq_iff_eq]; exact e2
          by_cases e1 : x1 = d
          · have e1b : (x1 == d) = true := by rw [beq_iff_eq]; exact e1
            have e7b : (x7 == 1000000) = false := by
              rw [beq_eq_false_iff_ne]
              intro e7
              rw [e2, e1, e7] at hpf
              simp at hpf
            clear e2 e1 hpf
            go_wp2
            go_roundw
            case rel => exact ⟨k + 1, aV, nV, cV, by first | rfl | go_num, by omega, HD8, HRX, HRY⟩
            case measure => simp [RowKit.intOf]; omega
          · have e1b : (x1 == d) = false := by rw [beq_eq_false_iff_ne]; exact e1
            clear e2 e1 hpf
            go_wp2
            go_roundw
            case rel => exact ⟨k + 1, aV, nV, cV, by first | rfl | go_num, by omega, HD8, HRX, HRY⟩
            case measure => simp [RowKit.intOf]; omega
        · have e2b : (x2 == ent) = false := by rw [beq_eq_false_iff_ne]; exact e2
          clear e2 hpf
          go_wp2
          go_roundw
          case rel => exact ⟨k + 1, aV, nV, cV, by first | rfl | go_num, by omega, HD8, HRX, HRY⟩
          case measure => simp [RowKit.intOf]; omega
    · obtain rfl : n0 = k := by omega
      have hO := HOW.out
      rw [HAF.out] at hO
      have hal := HAL.out n0
      rw [HAF.out] at hal
      have hly := HLY.out
      rw [HAF.out] at hly
      have hnv := hly.1
      rw [← hnv] at hO hal
      have h9 := hly.2
      have h6 := HDR.out.b6
      have hne := HNE.out
      have r0 := obj_cell h9 0
      simp at r0
      have p0 := obj_cell h6 0
      have f0 := obj_free h6 0
      simp at p0
      have hn4 : ¬ 400 < (nV : Int) := by omega
      have hg : wr.grownBy (wr.setCell ⟨b6, 0, none⟩ (.slice aV nV cV)) (some b6) := setCell_grown _ _
      have hset := obj_set h6 0 (.slice aV nV cV)
      simp only [List.setIfInBounds_toArray, List.set_cons_zero] at hset
      have HL3 : Hid (PstsAt (wr.setCell ⟨b6, 0, none⟩ (.slice aV nV cV)) (.slice aV nV cV) L) := Lib.hid (ListAt.owns (base := w.heap.size) (e := 57) (by rw [← hnv]; exact hO.kept hg (Or.inr fun e => own_ne2 hO h6 (by decide) e.symm)))
      have HB4 : Hid (Below w.heap.size w (wr.setCell ⟨b6, 0, none⟩ (.slice aV nV cV))) := Lib.hid (HDR.out.old.setCell (by show w.heap.size ≤ b6; rw [HY.out]; omega) _)
      have q0 := obj_cell hset 0
      simp at q0
      clear hO hal hly h9 h6 hne hg hset hnv
      go_wp2
      refine bodyPost_ret (v := .tuple #[.agg #[.slice aV nV cV], .int .i64 0]) (by simp [results, Tryz.results16, go_sem, q0]) rfl ⟨_, rfl, HL3.out, HB4.out⟩

end Go.Proofs.YtknmgkjfopoinaaGreatDoor
