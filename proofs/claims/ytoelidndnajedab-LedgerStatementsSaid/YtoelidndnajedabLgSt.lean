/- Assets less liabilities are the worth at the beginning, the result, and what was posted to net worth: for every tape. -/
import Derived.Test.YtoelidndnajedabLgSp
set_option linter.unusedSimpArgs false
set_option linter.unusedVariables false
namespace Go.Proofs.Ytoelidndnajedab
open Go.RowKit Go.Lib Go.Proofs Go.Maps

theorem clsM_upto {e c m x : Int} (h1 : m ≤ x) : ∀ {l : List Pst}, clsM e (ereDay m) c l + clsM e (amidDay m x) c l = clsM e (byDay x) c l
  | [] => rfl
  | p :: l => by
    have ih := clsM_upto (e := e) (c := c) h1 (l := l)
    simp only [clsM]
    have hd : (hitE e p && byDay x p.day) = ((hitE e p && ereDay m p.day) || (hitE e p && amidDay m x p.day)) ∧ ((hitE e p && ereDay m p.day) && (hitE e p && amidDay m x p.day)) = false := by
      unfold amidDay ereDay byDay
      cases hitE e p with
      | false => simp
      | true =>
        simp only [Bool.true_and]
        by_cases q1 : p.day < m <;> by_cases q2 : m ≤ p.day <;> by_cases q3 : p.day ≤ x <;> simp [q1, q2, q3] <;> omega
    rw [hd.1]
    have h2 := hd.2
    cases hA : (hitE e p && ereDay m p.day) <;> cases hB : (hitE e p && amidDay m x p.day) <;> rw [hA, hB] at h2 <;> simp_all <;> omega
theorem clsM_snoc (e : Int) (f : Int → Bool) (c : Int) (p : Pst) : ∀ l : List Pst, clsM e f c (l ++ [p]) = clsM e f c l + (if (hitE e p && f p.day) = true then cnetP c p else 0)
  | [] => by simp [clsM]
  | q :: l => by simp only [List.cons_append, clsM, clsM_snoc e f c p l]; omega
theorem clsM_len {e : Int} {f : Int → Bool} {c : Int} : ∀ {l : List Pst}, (∀ p ∈ l, PstOk p) → -1000000000000 * (l.length : Int) ≤ clsM e f c l ∧ clsM e f c l ≤ 1000000000000 * (l.length : Int)
  | [], _ => by simp [clsM]
  | p :: l, hp => by
    have h1 := clsM_len (e := e) (f := f) (c := c) (l := l) fun q hq => hp q (List.mem_cons_of_mem _ hq)
    have h2 := (hp p List.mem_cons_self).amt
    have h3 : -1000000000000 ≤ cnetP c p ∧ cnetP c p ≤ 1000000000000 := by
      unfold cnetP
      constructor <;> (repeat' split) <;> omega
    simp only [clsM, List.length_cons]
    split <;> constructor <;> omega

set_option maxRecDepth 100000 in
set_option maxHeartbeats 32000000 in
theorem lgstatements_any (v : Value) (n : Nat) (a b : Int) (w : World) (hi : IntsAt w v n w.heap.size) (hn : n ≤ 9223372036854775807) (ha : 0 ≤ a) (ha1 : a ≤ 65535) (hb : 0 ≤ b) (hb1 : b ≤ 65535) :
    Calls Try.prog 5 #[v, .int .u16 a, .int .u16 b] w fun e w' => e = .returned (.bool true) ∧ Below w.heap.size w w' := by
  have HNEW := Lib.hid (sNew_any v n w hi hn)
  have HSN := Lib.hid sane40_true
  clear hi hn
  go_enter Try.func5, Try.ntmps5
  go_wp2_with fail
  refine (HNEW.out).mono ?_
  rintro e w1 ⟨rfl, t1, b1⟩
  obtain ⟨tb, htb⟩ : ∃ tb, tb = w.heap.size := ⟨_, rfl⟩
  rw [← htb] at t1 ⊢
  have HLG := Lib.hid (sLedger_any tb 12 3 800 w1 t1 (by omega) (by omega) (by omega))
  have HW1 := Lib.hid b1
  have HTB := Lib.hid htb
  clear t1 b1 HNEW htb
  go_wp2_with fail
  refine (HLG.out).mono ?_
  rintro e w2 ⟨l, lv, rfl, hin, -, hl, hsi⟩
  have HB2 := Lib.hid ((HW1.out).grown hsi.old HW1.out.size (fun q e => by injection e with e; rw [← e, ← HTB.out]; exact Nat.le_refl _))
  obtain ⟨av, cv, rfl, hcap, hcs⟩ := PstsAt.open hl
  have HOK := Lib.hid hin.ok
  have HCS := Lib.hid hcs
  obtain ⟨lo, hlo⟩ : ∃ m, a.tmod 700 = m := ⟨_, rfl⟩
  have hlo0 : 0 ≤ lo := by rw [← hlo]; exact Int.tmod_nonneg _ ha
  have hlo1 : lo < 700 := by rw [← hlo]; exact Int.tmod_lt_of_pos _ (by omega)
  obtain ⟨r, hr⟩ : ∃ r, b.tmod 200 = r := ⟨_, rfl⟩
  have hr0 : 0 ≤ r := by rw [← hr]; exact Int.tmod_nonneg _ hb
  have hr1 : r < 200 := by rw [← hr]; exact Int.tmod_lt_of_pos _ (by omega)
  have hwa : IntKind.i64.wrap a = a := IntWalk.i64_in _ (by omega)
  have hwb : IntKind.i64.wrap b = b := IntWalk.i64_in _ (by omega)
  have hwm : IntKind.i64.wrap lo = lo := IntWalk.i64_in _ (by omega)
  have hwr : IntKind.i64.wrap r = r := IntWalk.i64_in _ (by omega)
  obtain ⟨hx, hhx⟩ : ∃ x, x = lo + r := ⟨_, rfl⟩
  have hwx : IntKind.i64.wrap (lo + r) = hx := by rw [hhx]; exact IntWalk.i64_in _ (by omega)
  have hhx0 : lo ≤ hx ∧ hx ≤ 36000 := by omega
  obtain ⟨nl, hnl⟩ : ∃ k, k = l.length := ⟨_, rfl⟩
  have HNL := Lib.hid hnl
  rw [← hnl]
  rw [← hnl] at hl hcap
  have hnl4 : nl ≤ 400 := by rw [hnl]; exact HOK.out.len
  have HLV := Lib.hid hl
  obtain ⟨bL, hbL⟩ : ∃ x, x = w2.heap.size := ⟨_, rfl⟩
  obtain ⟨w3, hw3⟩ : ∃ w3, w3 = w2.alloc (.cells #[.slice av nl cv] 28) := ⟨_, rfl⟩
  have HX3 : Hid (w3.heap[bL]? = some (.cells #[.slice av nl cv] 28 (0, 0))) := Lib.hid (by rw [hw3, hbL]; exact heap_alloc_new _ _)
  have HD3 : Hid (Below w2.heap.size w2 w3) := Lib.hid (by rw [hw3]; exact below_alloc _ _)
  have HW3 := Lib.hid hw3
  have HBL := Lib.hid hbL
  clear hw3 hl hsi hin hnl hbL hhx HLG ha hb hcs
  go_upto_region 3 with fail
  rw [← HW3.out, ← HBL.out]
  go_wp2
  go_loopw [11] (fun ev wr => ∃ ee : Int, ev = .int .i64 ee ∧ 0 ≤ ee ∧ ee ≤ 4 ∧ Hid (Below w3.heap.size w3 wr)) (fun ev _ => (4 - RowKit.intOf ev).toNat)
  case atStart => exact ⟨0, rfl, by omega, by omega, Lib.hid (Below.refl _ _)⟩
  case round =>
    obtain ⟨ee, rfl, he0, he4, HB⟩ := hrel
    by_cases hlt : ee ≤ 3
    · have HDW := Lib.hid (HD3.out.trans (HB.out.mono HD3.out.size))
      have hS := lgStatement_right HOK.out ee lo hx (.slice av nl cv) wr (ListAt.below HLV.out HDW.out) ⟨he0, by omega⟩ ⟨hlo0, by omega⟩ hhx0
      have kz := clsM_zero (e := ee) (f := byDay hx) HOK.out.mem
      have k3 := clsM_upto (e := ee) (c := 3) (m := lo) (x := hx) hhx0.1 (l := l)
      have k4 := clsM_upto (e := ee) (c := 4) (m := lo) (x := hx) hhx0.1 (l := l)
      have k5 := clsM_upto (e := ee) (c := 5) (m := lo) (x := hx) hhx0.1 (l := l)
      have z1 := clsM_small HOK.out ee (byDay hx) 1
      have z2 := clsM_small HOK.out ee (byDay hx) 2
      have z3 := clsM_small HOK.out ee (ereDay lo) 3
      have z4 := clsM_small HOK.out ee (ereDay lo) 4
      have z5 := clsM_small HOK.out ee (ereDay lo) 5
      have z6 := clsM_small HOK.out ee (amidDay lo hx) 4
      have z7 := clsM_small HOK.out ee (amidDay lo hx) 5
      have z8 := clsM_small HOK.out ee (amidDay lo hx) 3
      obtain ⟨A1, hA1⟩ : ∃ x, x = clsM ee (byDay hx) 1 l := ⟨_, rfl⟩
      obtain ⟨L1, hL1⟩ : ∃ x, x = -clsM ee (byDay hx) 2 l := ⟨_, rfl⟩
      obtain ⟨W1, hW1⟩ : ∃ x, x = -clsM ee (ereDay lo) 3 l - clsM ee (ereDay lo) 4 l - clsM ee (ereDay lo) 5 l := ⟨_, rfl⟩
      obtain ⟨R1, hR1⟩ : ∃ x, x = -clsM ee (amidDay lo hx) 4 l := ⟨_, rfl⟩
      obtain ⟨E1, hE1⟩ : ∃ x, x = clsM ee (amidDay lo hx) 5 l := ⟨_, rfl⟩
      rw [← hA1, ← hL1, ← hW1, ← hR1, ← hE1] at hS
      have HEQ : Hid (∀ mv : Int, mv = -clsM ee (amidDay lo hx) 3 l → IntKind.i64.wrap (A1 - L1) = A1 - L1 ∧ IntKind.i64.wrap (W1 + R1) = W1 + R1 ∧ IntKind.i64.wrap (W1 + R1 - E1) = W1 + R1 - E1 ∧ IntKind.i64.wrap (W1 + R1 - E1 + mv) = A1 - L1) := Lib.hid fun mv hmv => by
        have heq : W1 + R1 - E1 + mv = A1 - L1 := by omega
        refine ⟨IntWalk.i64_in _ (by omega), IntWalk.i64_in _ (by omega), IntWalk.i64_in _ (by omega), ?_⟩
        rw [heq]
        exact IntWalk.i64_in _ (by omega)
      have HS := Lib.hid hS
      have hxl := obj_below HX3.out HB.out
      have u0 := obj_cell hxl 0
      simp at u0
      have HXL := Lib.hid hxl
      clear hS kz k3 k4 k5 z1 z2 z3 z4 z5 z6 z7 z8 hA1 hL1 hW1 hR1 hE1 hxl
      go_wp2_with fail
      refine (HS.out).mono ?_
      rintro e w4 ⟨rfl, hb4⟩
      have HB4 := Lib.hid (HB.out.trans (hb4.mono HB.out.size))
      obtain ⟨bS, hbS⟩ : ∃ x, x = w4.heap.size := ⟨_, rfl⟩
      obtain ⟨w5, hw5⟩ : ∃ x, x = w4.alloc (.cells #[.int .i64 A1, .int .i64 L1, .int .i64 W1, .int .i64 R1, .int .i64 E1] 45) := ⟨_, rfl⟩
      have HS5 : Hid (w5.heap[bS]? = some (.cells #[.int .i64 A1, .int .i64 L1, .int .i64 W1, .int .i64 R1, .int .i64 E1] 45 (0, 0))) := Lib.hid (by rw [hw5, hbS]; exact heap_alloc_new _ _)
      have HB5 : Hid (Below w3.heap.size w3 w5) := Lib.hid (by rw [hw5]; exact HB4.out.alloc HB4.out.size _)
      have HD5 := Lib.hid (HD3.out.trans (HB5.out.mono HD3.out.size))
      have HL5 := Lib.hid (obj_below HX3.out HB5.out)
      have HW5 := Lib.hid hw5
      have HBS := Lib.hid hbS
      clear hb4 hw5 hbS u0 HS
      go_upto_region 9 with fail
      rw [← HW5.out, ← HBS.out]
      have hxl := HL5.out
      have u0 := obj_cell hxl 0
      simp at u0
      clear hxl
      go_wp2
      go_loopw [14, 46] (fun mv iv wi => ∃ (k : Nat) (mm : Int), mv = .int .i64 mm ∧ iv = .int .i64 k ∧ k ≤ nl ∧ Hid (mm + clsM ee (amidDay lo hx) 3 (l.take k) = 0) ∧ Hid (Below w5.heap.size w5 wi)) (fun _ iv _ => nl - (RowKit.intOf iv).toNat)
      case atStart => exact ⟨0, 0, rfl, rfl, by omega, Lib.hid (by simp [clsM]), Lib.hid (Below.refl _ _)⟩
      case round =>
        obtain ⟨k, mv, rfl, rfl, hkn, HMV, HBI⟩ := hrel
        by_cases hlt2 : k < nl
        · have hkl' : k < l.length := by rw [← HNL.out]; exact hlt2
          obtain ⟨b1, o1, rfl, hb1', hcc⟩ := HCS.out (by omega)
          have HBJ := Lib.hid (HD5.out.trans (HBI.out.mono HD5.out.size))
          have hcell := fun j (hj : j < 8) => (HBJ.out.cell (p := ⟨b1, o1 + k * 8 + j, none⟩) hb1').trans (hcc k hkl' j hj)
          have hbd := clsM_len (e := ee) (f := amidDay lo hx) (c := 3) (l := l.take k) fun p hp => HOK.out.mem p (List.mem_of_mem_take hp)
          have hlk : (l.take k).length ≤ 400 := by rw [List.length_take]; omega
          have hmvb : -400000000000000 ≤ mv ∧ mv ≤ 400000000000000 := by have := HMV.out; omega
          have hpo := HOK.out.ok k hkl'
          have HNX : Hid (clsM ee (amidDay lo hx) 3 (l.take (k + 1)) = clsM ee (amidDay lo hx) 3 (l.take k) + (if (hitE ee (pstAt l k) && amidDay lo hx (pstAt l k).day) = true then cnetP 3 (pstAt l k) else 0)) := Lib.hid (by rw [take_snoc_at hkl', clsM_snoc])
          generalize pstAt l k = x at *
          obtain ⟨x0, x1, x2, x3, x4, x5, x6, x7⟩ := x
          have hamt := hpo.amt
          simp only at hamt HNX
          have c0 : wr.cell? ⟨b1, o1 + k * 8, none⟩ = some (.int .i64 x0) := hcell 0 (by omega)
          have c1 : wr.cell? ⟨b1, o1 + k * 8 + 1, none⟩ = some (.int .i64 x1) := hcell 1 (by omega)
          have c2 : wr.cell? ⟨b1, o1 + k * 8 + 2, none⟩ = some (.int .i64 x2) := hcell 2 (by omega)
          have c3 : wr.cell? ⟨b1, o1 + k * 8 + 3, none⟩ = some (.int .i64 x3) := hcell 3 (by omega)
          have c4 : wr.cell? ⟨b1, o1 + k * 8 + 4, none⟩ = some (.int .i64 x4) := hcell 4 (by omega)
          have c5 : wr.cell? ⟨b1, o1 + k * 8 + 5, none⟩ = some (.int .i64 x5) := hcell 5 (by omega)
          have c6 : wr.cell? ⟨b1, o1 + k * 8 + 6, none⟩ = some (.int .i64 x6) := hcell 6 (by omega)
          have c7 : wr.cell? ⟨b1, o1 + k * 8 + 7, none⟩ = some (.int .i64 x7) := hcell 7 (by omega)
          have hk0 : (0 : Int) ≤ (k : Int) := by omega
          have hk1 : (k : Int) < (nl : Int) := by omega
          have HBP := Lib.hid (HBI.out.alloc HBI.out.size (.cells #[.int .i64 x0, .int .i64 x1, .int .i64 x2, .int .i64 x3, .int .i64 x4, .int .i64 x5, .int .i64 x6, .int .i64 x7] 37))
          obtain ⟨cd, hcd⟩ : ∃ c, c = classM x3 := ⟨_, rfl⟩
          obtain ⟨cc, hccl⟩ : ∃ c, c = classM x4 := ⟨_, rfl⟩
          have HCN : Hid (cnetP 3 ⟨x0, x1, x2, x3, x4, x5, x6, x7⟩ = (if cd = 3 then x5 else 0) - (if cc = 3 then x5 else 0)) := Lib.hid (by rw [hcd, hccl]; rfl)
          have HCD := Lib.hid (fun W => rgClass_any x3 W)
          have HCC := Lib.hid (fun W => rgClass_any x4 W)
          rw [← hcd] at HCD
          rw [← hccl] at HCC
          have hw1 : IntKind.i64.wrap (mv + x5) = mv + x5 := IntWalk.i64_in _ (by omega)
          have hw2 : wrap64 mv = mv := by simp only [wrap64]; omega
          have hw3 : IntKind.i64.wrap (mv - x5) = mv - x5 := IntWalk.i64_in _ (by omega)
          clear hcell hcc hbd hlk hpo hcd hccl hmvb
          by_cases q1 : x1 < lo
          · have HHIT : Hid ((hitE ee ⟨x0, x1, x2, x3, x4, x5, x6, x7⟩ && amidDay lo hx x1) = false) := Lib.hid (by unfold amidDay; rw [decide_eq_false (show ¬ lo ≤ x1 by omega)]; simp)
            go_wp2
            go_roundw
            case rel => exact ⟨k + 1, mv, rfl, by first | rfl | go_num, by omega, Lib.hid (by rw [HNX.out, if_neg (by rw [HHIT.out]; simp)]; have := HMV.out; omega), HBP⟩
            case measure => simp [RowKit.intOf]; omega
          · by_cases q2 : hx < x1
            · have HHIT : Hid ((hitE ee ⟨x0, x1, x2, x3, x4, x5, x6, x7⟩ && amidDay lo hx x1) = false) := Lib.hid (by unfold amidDay; rw [decide_eq_false (show ¬ x1 ≤ hx by omega)]; simp)
              go_wp2
              go_roundw
              case rel => exact ⟨k + 1, mv, rfl, by first | rfl | go_num, by omega, Lib.hid (by rw [HNX.out, if_neg (by rw [HHIT.out]; simp)]; have := HMV.out; omega), HBP⟩
              case measure => simp [RowKit.intOf]; omega
            · by_cases q3 : ee = 0
              · subst q3
                have HHIT : Hid ((hitE 0 ⟨x0, x1, x2, x3, x4, x5, x6, x7⟩ && amidDay lo hx x1) = true) := Lib.hid (by unfold amidDay hitE; rw [decide_eq_true (show lo ≤ x1 by omega), decide_eq_true (show x1 ≤ hx by omega)]; simp)
                go_wp2_with fail
                refine (HCC.out _).mono ?_
                rintro e w8 ⟨rfl, rfl⟩
                by_cases hc3 : cc = 3
                · have hcb : (cc == 3) = true := by simp [hc3]
                  have HC3 := Lib.hid hc3
                  clear hc3
                  go_wp2_with fail
                  refine (HCD.out _).mono ?_
                  rintro e w9 ⟨rfl, rfl⟩
                  by_cases hd3 : cd = 3
                  · have hdb : (cd == 3) = true := by simp [hd3]
                    have HD3 := Lib.hid hd3
                    clear hd3
                    go_wp2
                    go_roundw
                    case rel => exact ⟨k + 1, mv, (by first | rfl | rw [hw2]), by first | rfl | go_num, by omega, Lib.hid (by rw [HNX.out, if_pos HHIT.out, HCN.out, if_pos HD3.out, if_pos HC3.out]; have := HMV.out; omega), HBP⟩
                    case measure => simp [RowKit.intOf]; omega
                  · have hdb : (cd == 3) = false := by rw [beq_eq_false_iff_ne]; exact hd3
                    have HD3 := Lib.hid hd3
                    clear hd3
                    go_wp2
                    go_roundw
                    case rel => exact ⟨k + 1, mv + x5, rfl, by first | rfl | go_num, by omega, Lib.hid (by rw [HNX.out, if_pos HHIT.out, HCN.out, if_neg HD3.out, if_pos HC3.out]; have := HMV.out; omega), HBP⟩
                    case measure => simp [RowKit.intOf]; omega
                · have hcb : (cc == 3) = false := by rw [beq_eq_false_iff_ne]; exact hc3
                  have HC3 := Lib.hid hc3
                  clear hc3
                  go_wp2_with fail
                  refine (HCD.out _).mono ?_
                  rintro e w9 ⟨rfl, rfl⟩
                  by_cases hd3 : cd = 3
                  · have hdb : (cd == 3) = true := by simp [hd3]
                    have HD3 := Lib.hid hd3
                    clear hd3
                    go_wp2
                    go_roundw
                    case rel => exact ⟨k + 1, mv - x5, rfl, by first | rfl | go_num, by omega, Lib.hid (by rw [HNX.out, if_pos HHIT.out, HCN.out, if_pos HD3.out, if_neg HC3.out]; have := HMV.out; omega), HBP⟩
                    case measure => simp [RowKit.intOf]; omega
                  · have hdb : (cd == 3) = false := by rw [beq_eq_false_iff_ne]; exact hd3
                    have HD3 := Lib.hid hd3
                    clear hd3
                    go_wp2
                    go_roundw
                    case rel => exact ⟨k + 1, mv, rfl, by first | rfl | go_num, by omega, Lib.hid (by rw [HNX.out, if_pos HHIT.out, HCN.out, if_neg HD3.out, if_neg HC3.out]; have := HMV.out; omega), HBP⟩
                    case measure => simp [RowKit.intOf]; omega
              · have q3b : (ee != 0) = true := by simp [q3]
                by_cases q4 : x2 = ee
                · subst q4
                  have HHIT : Hid ((hitE x2 ⟨x0, x1, x2, x3, x4, x5, x6, x7⟩ && amidDay lo hx x1) = true) := Lib.hid (by unfold amidDay hitE; rw [decide_eq_true (show lo ≤ x1 by omega), decide_eq_true (show x1 ≤ hx by omega)]; simp)
                  go_wp2_with fail
                  refine (HCC.out _).mono ?_
                  rintro e w8 ⟨rfl, rfl⟩
                  by_cases hc3 : cc = 3
                  · have hcb : (cc == 3) = true := by simp [hc3]
                    have HC3 := Lib.hid hc3
                    clear hc3
                    go_wp2_with fail
                    refine (HCD.out _).mono ?_
                    rintro e w9 ⟨rfl, rfl⟩
                    by_cases hd3 : cd = 3
                    · have hdb : (cd == 3) = true := by simp [hd3]
                      have HD3 := Lib.hid hd3
                      clear hd3
                      go_wp2
                      go_roundw
                      case rel => exact ⟨k + 1, mv, (by first | rfl | rw [hw2]), by first | rfl | go_num, by omega, Lib.hid (by rw [HNX.out, if_pos HHIT.out, HCN.out, if_pos HD3.out, if_pos HC3.out]; have := HMV.out; omega), HBP⟩
                      case measure => simp [RowKit.intOf]; omega
                    · have hdb : (cd == 3) = false := by rw [beq_eq_false_iff_ne]; exact hd3
                      have HD3 := Lib.hid hd3
                      clear hd3
                      go_wp2
                      go_roundw
                      case rel => exact ⟨k + 1, mv + x5, rfl, by first | rfl | go_num, by omega, Lib.hid (by rw [HNX.out, if_pos HHIT.out, HCN.out, if_neg HD3.out, if_pos HC3.out]; have := HMV.out; omega), HBP⟩
                      case measure => simp [RowKit.intOf]; omega
                  · have hcb : (cc == 3) = false := by rw [beq_eq_false_iff_ne]; exact hc3
                    have HC3 := Lib.hid hc3
                    clear hc3
                    go_wp2_with fail
                    refine (HCD.out _).mono ?_
                    rintro e w9 ⟨rfl, rfl⟩
                    by_cases hd3 : cd = 3
                    · have hdb : (cd == 3) = true := by simp [hd3]
                      have HD3 := Lib.hid hd3
                      clear hd3
                      go_wp2
                      go_roundw
                      case rel => exact ⟨k + 1, mv - x5, rfl, by first | rfl | go_num, by omega, Lib.hid (by rw [HNX.out, if_pos HHIT.out, HCN.out, if_pos HD3.out, if_neg HC3.out]; have := HMV.out; omega), HBP⟩
                      case measure => simp [RowKit.intOf]; omega
                    · have hdb : (cd == 3) = false := by rw [beq_eq_false_iff_ne]; exact hd3
                      have HD3 := Lib.hid hd3
                      clear hd3
                      go_wp2
                      go_roundw
                      case rel => exact ⟨k + 1, mv, rfl, by first | rfl | go_num, by omega, Lib.hid (by rw [HNX.out, if_pos HHIT.out, HCN.out, if_neg HD3.out, if_neg HC3.out]; have := HMV.out; omega), HBP⟩
                      case measure => simp [RowKit.intOf]; omega
                · have q4b : (x2 != ee) = true := by simp [q4]
                  have HHIT : Hid ((hitE ee ⟨x0, x1, x2, x3, x4, x5, x6, x7⟩ && amidDay lo hx x1) = false) := Lib.hid (by unfold hitE; simp [q3, q4])
                  go_wp2
                  go_roundw
                  case rel => exact ⟨k + 1, mv, rfl, by first | rfl | go_num, by omega, Lib.hid (by rw [HNX.out, if_neg (by rw [HHIT.out]; simp)]; have := HMV.out; omega), HBP⟩
                  case measure => simp [RowKit.intOf]; omega
        · obtain rfl : k = nl := by omega
          have hmv : mv = -clsM ee (amidDay lo hx) 3 l := by
            have h := HMV.out
            rw [show l.take k = l by rw [HNL.out, List.take_length]] at h
            omega
          obtain ⟨e1, e2, e3, e4⟩ := HEQ.out mv hmv
          have hxs := obj_below HS5.out HBI.out
          have p0 := obj_cell hxs 0
          have p1 := obj_cell hxs 1
          have p2 := obj_cell hxs 2
          have p3 := obj_cell hxs 3
          have p4 := obj_cell hxs 4
          simp at p0 p1 p2 p3 p4
          have HBE := Lib.hid (HB5.out.trans (HBI.out.mono HB5.out.size))
          have hwe : IntKind.i64.wrap (ee + 1) = ee + 1 := IntWalk.i64_in _ (by omega)
          clear hxs hmv u0
          go_wp2
          go_roundw
          case rel => exact ⟨ee + 1, by first | rfl | go_num, by omega, by omega, HBE⟩
          case measure => simp [RowKit.intOf]; omega
    · obtain rfl : ee = 4 := by omega
      go_wp2_with fail
      refine (HSN.out _).mono ?_
      rintro e w9 ⟨rfl, hb9⟩
      have HBF := Lib.hid (HB.out.trans (hb9.mono HB.out.size))
      clear hb9
      go_wp2
      go_ret
      exact ⟨rfl, HB2.out.trans ((HD3.out.trans (HBF.out.mono HD3.out.size)).mono HB2.out.size)⟩

end Go.Proofs.Ytoelidndnajedab
