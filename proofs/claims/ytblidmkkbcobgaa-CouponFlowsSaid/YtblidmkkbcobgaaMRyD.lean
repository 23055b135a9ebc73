/- The register's reference: set. -/
import Derived.Test.YtblidmkkbcobgaaMG5
import Derived.Test.YtblidmkkbcobgaaMInsHld
import Derived.Deep.DeepCutAuto
set_option linter.unusedSimpArgs false
set_option linter.unusedVariables false
set_option linter.unusedSimpArgs false
set_option linter.unusedVariables false
namespace Go.Proofs.Ytblidmkkbcobgaa
open Go.RowKit Go.Lib Go.Proofs

theorem below_row {w W W' : World} {base : Nat} {e : TypeId} {k n : Nat} {v : Value} {xs : List Value} (h : W.ownsRow base e k v n xs) (hb : Below base w W) (hg : W.grownBy W' v.ownBlock) (hs : base ≤ W.heap.size) : Below base w W' :=
  hb.grown hg hs (fun r e => ownBlock_le h r e)

set_option maxRecDepth 100000 in
set_option maxHeartbeats 16000000 in
theorem ryset_any (l : List Hld) (id who by' : Int) (v : Value) (w : World) (hl : ListAt hldC 3 w v l) (hlen : l.length ≤ 1000000) (hb : -9000000000000000000 ≤ firstH id who l + by' ∧ firstH id who l + by' ≤ 9000000000000000000) :
    Calls Try.prog 130 #[v, .int .i64 id, .int .i64 who, .int .i64 by'] w fun e w' => ∃ v', e = .returned v' ∧ w'.ownsRow w.heap.size 53 3 v' (setR id who (firstH id who l + by') (decide (firstH id who l + by' = 0)) l).length (cellsL hldC (setR id who (firstH id who l + by') (decide (firstH id who l + by' = 0)) l)) ∧ Below w.heap.size w w' := by
  have HH := Lib.hid (ryheld_any l id who v w hl hlen)
  obtain ⟨i0, hi0, hz0, hz1, hz2⟩ := info_parts infoIHld
  obtain ⟨ao, cap, rfl, hcap, hcs⟩ := hl.shape hldF
  have HCS := Lib.hid hcs
  obtain ⟨n, hn⟩ : ∃ n, n = l.length := ⟨_, rfl⟩
  have HN := Lib.hid hn
  rw [← hn] at hcap hlen HH ⊢
  obtain ⟨fh, hfh⟩ : ∃ fh, fh = firstH id who l := ⟨_, rfl⟩
  rw [← hfh] at hb HH ⊢
  obtain ⟨q, hq⟩ : ∃ q, q = fh + by' := ⟨_, rfl⟩
  have hqw : IntKind.i64.wrap (fh + by') = q := by rw [IntKind.wrap_i64]; omega
  rw [← hq]
  obtain ⟨R, hR⟩ : ∃ R, R = setR id who q (decide (q = 0)) l := ⟨_, rfl⟩
  rw [← hR]
  have HR := Lib.hid hR
  obtain ⟨p0, hp0⟩ : ∃ p0, p0 = decide (q = 0) := ⟨_, rfl⟩
  have hp1 : (q == 0) = p0 := by rw [hp0]; by_cases h : q = 0 <;> simp [h]
  rw [← hp0] at HR
  clear hn hcs hl hfh hR hp0 hq hb
  go_enter Try.func130, Try.ntmps130
  go_wp2_with fail
  with_reducible refine Calls.mono HH.out ?_
  rintro e w1 ⟨rfl, hb1⟩
  have HB1 := Lib.hid hb1
  clear hb1 HH
  go_wp2
  go_loopw [10, 11, 24] (fun vv pv iv wr => ∃ (k : Nat) (p : Bool) (o : List Hld), iv = .int .i64 (k : Int) ∧ pv = .bool p ∧ k ≤ n ∧ o.length ≤ 2 * k ∧ Hid (o ++ setR id who q p (l.drop k) = R) ∧ Hid (wr.ownsRow w.heap.size 53 3 vv o.length (cellsL hldC o)) ∧ Hid (Below w.heap.size w wr)) (fun _ _ iv _ => n - (RowKit.intOf iv).toNat)
  case atStart => exact ⟨0, p0, [], rfl, by first | rfl | simp [hp1], by omega, by simp, Lib.hid (by rw [HR.out]; rfl), Lib.hid (World.ownsRow_nil _ _ _ _), HB1⟩
  case round =>
    obtain ⟨k, p, o, rfl, rfl, hkn, hol, HO, HOWN, HB⟩ := hrel
    obtain ⟨on, hon⟩ : ∃ on, on = o.length := ⟨_, rfl⟩
    rw [← hon] at hol HOWN
    have HON := Lib.hid hon
    clear hon
    by_cases hlk : k < n
    · have hkl : k < l.length := by rw [← HN.out]; exact hlk
      obtain ⟨b, oo, rfl, hb, hcc⟩ := HCS.out (by omega)
      have hcell := fun j (hj : j < 3) => (HB.out.cell (p := ⟨b, oo + k * 3 + j, none⟩) hb).trans (hcc k hkl j hj)
      have HD : Hid (l.drop k = l[k] :: l.drop (k + 1)) := Lib.hid (List.drop_eq_getElem_cons hkl)
      rw [HD.out] at HO
      generalize l[k] = x at *
      obtain ⟨xa, xb, xc⟩ := x
      clear hcc HD
      have c0 : wr.cell? ⟨b, oo + k * 3, none⟩ = some (.int .i64 xa) := hcell 0 (by omega)
      have c1 : wr.cell? ⟨b, oo + k * 3 + 1, none⟩ = some (.int .i64 xb) := hcell 1 (by omega)
      have c2 : wr.cell? ⟨b, oo + k * 3 + 2, none⟩ = some (.int .i64 xc) := hcell 2 (by omega)
      have hk0 : (0 : Int) ≤ (k : Int) := by omega
      have hk1 : (k : Int) < (n : Int) := by omega
      have hbal := below_alloc wr (.cells #[.int .i64 xa, .int .i64 xb, .int .i64 xc] 53)
      have HW2 := Lib.hid (HB.out.trans (hbal.mono HB.out.size))
      have HX2 := Lib.hid (heap_alloc_new wr (.cells #[.int .i64 xa, .int .i64 xb, .int .i64 xc] 53))
      have HO2 := Lib.hid (ownsRow_below HOWN.out hbal)
      have HLT : Hid (∀ g, u10.ownBlock = some g → g ≠ wr.heap.size) := Lib.hid fun g hg => Nat.ne_of_lt (HOWN.out.lt g hg).2
      obtain ⟨W2, hW2⟩ : ∃ W2, W2 = wr.alloc (.cells #[.int .i64 xa, .int .i64 xb, .int .i64 xc] 53) := ⟨_, rfl⟩
      obtain ⟨bX, hbX⟩ : ∃ bX, bX = wr.heap.size := ⟨_, rfl⟩
      have HBL : Hid (bX < W2.heap.size) := Lib.hid (by rw [hW2, hbX]; simp)
      rw [← hW2] at HW2 HX2 HO2
      rw [← hbX] at HX2 HLT
      have HS2 : Hid (w.heap.size ≤ W2.heap.size) := Lib.hid HW2.out.size
      clear hcell
      go_upto_region 7 with fail
      rw [← hW2, ← hbX]
      clear hW2 hbX hbal c0 c1 c2 HOWN HB
      have hX2 := HX2.out
      have d0 := obj_cell hX2 0
      have d1 := obj_cell hX2 1
      have d2 := obj_cell hX2 2
      simp at d0 d1 d2
      clear hX2
      by_cases h1 : xa = id ∧ xb = who
      · obtain ⟨rfl, rfl⟩ := h1
        have HO3 : Hid (o ++ setR xa xb q p (l.drop (k + 1)) = R) := Lib.hid (by
          have h := HO.out
          unfold setR at h
          rw [if_pos ⟨rfl, rfl⟩] at h
          exact h)
        clear HO
        go_wp2
        go_roundw
        case rel => exact ⟨k + 1, p, o, by first | rfl | go_num, rfl, by omega, by rw [← HON.out]; omega, HO3, by rw [← HON.out]; exact HO2, HW2⟩
        case measure => simp [RowKit.intOf]; omega
      · cases p with
        | true =>
          by_cases h2 : xa = id
          · have hbe : (xa == id) = true := by simpa using h2
            have hbf : (xb == who) = false := beq_eq_false_iff_ne.2 fun e => h1 ⟨h2, e⟩
            clear h2
            have HO3 : Hid ((o ++ [⟨xa, xb, xc⟩]) ++ setR id who q true (l.drop (k + 1)) = R) := Lib.hid (by
              have h := HO.out
              unfold setR at h
              rw [if_neg h1, if_neg (by simp)] at h
              rw [List.append_assoc]
              exact h)
            clear HO
            go_wp2_with (at_builtin; refine wpList_append_moved _ rfl _ _ 26 rfl w.heap.size 53 i0 _ 3 24 undIHld hi0 hz0 hz1 hz2 rfl (by decide) _ on (cellsL hldC o) rfl (HO2.out.alloc _) ⟨W2.heap.size, 0, none⟩ 1 1 [.int .i64 xa, .int .i64 xb, .int .i64 xc] rfl rfl (new_cells _ _ _ _ rfl) (by intro u hu; simp at hu; rcases hu with rfl | rfl | rfl <;> rfl) (by decide) (by unfold maxLen; omega) (by omega) (by simp; have := HS2.out; omega) ?_; intro v7 w7 hown7 hgr7 hmv7)
            have hB7 : Below w.heap.size w w7 := below_row (HO2.out.alloc _) (HW2.out.alloc HW2.out.size _) hgr7 (by simp; have := HS2.out; omega)
            have HB7 := Lib.hid hB7
            have HO7 := Lib.hid hown7
            clear hB7 hown7 hgr7 hmv7
            go_roundw
            case rel =>
              have el : (o ++ [⟨xa, xb, xc⟩] : List Hld).length = on + 1 := by rw [List.length_append, ← HON.out]; rfl
              refine ⟨k + 1, true, o ++ [⟨xa, xb, xc⟩], by first | rfl | go_num, rfl, by omega, by rw [el]; omega, HO3, Lib.hid ?_, HB7⟩
              rw [el, ← cellsL_snoc]
              exact HO7.out
            case measure => simp [RowKit.intOf]; omega
          · have hbe : (xa == id) = false := beq_eq_false_iff_ne.2 h2
            have HO3 : Hid ((o ++ [⟨xa, xb, xc⟩]) ++ setR id who q true (l.drop (k + 1)) = R) := Lib.hid (by
              have h := HO.out
              unfold setR at h
              rw [if_neg h1, if_neg (by simp)] at h
              rw [List.append_assoc]
              exact h)
            clear HO
            go_wp2_with (at_builtin; refine wpList_append_moved _ rfl _ _ 26 rfl w.heap.size 53 i0 _ 3 24 undIHld hi0 hz0 hz1 hz2 rfl (by decide) _ on (cellsL hldC o) rfl (HO2.out.alloc _) ⟨W2.heap.size, 0, none⟩ 1 1 [.int .i64 xa, .int .i64 xb, .int .i64 xc] rfl rfl (new_cells _ _ _ _ rfl) (by intro u hu; simp at hu; rcases hu with rfl | rfl | rfl <;> rfl) (by decide) (by unfold maxLen; omega) (by omega) (by simp; have := HS2.out; omega) ?_; intro v7 w7 hown7 hgr7 hmv7)
            have hB7 : Below w.heap.size w w7 := below_row (HO2.out.alloc _) (HW2.out.alloc HW2.out.size _) hgr7 (by simp; have := HS2.out; omega)
            have HB7 := Lib.hid hB7
            have HO7 := Lib.hid hown7
            clear hB7 hown7 hgr7 hmv7
            go_roundw
            case rel =>
              have el : (o ++ [⟨xa, xb, xc⟩] : List Hld).length = on + 1 := by rw [List.length_append, ← HON.out]; rfl
              refine ⟨k + 1, true, o ++ [⟨xa, xb, xc⟩], by first | rfl | go_num, rfl, by omega, by rw [el]; omega, HO3, Lib.hid ?_, HB7⟩
              rw [el, ← cellsL_snoc]
              exact HO7.out
            case measure => simp [RowKit.intOf]; omega
        | false =>
          rcases Int.lt_trichotomy xa id with h2 | h2 | h2
          · have hbe : (xa == id) = false := beq_eq_false_iff_ne.2 (by omega)
            have hgt : ¬ id < xa := by omega
            have HO3 : Hid ((o ++ [⟨xa, xb, xc⟩]) ++ setR id who q false (l.drop (k + 1)) = R) := Lib.hid (by
              have h := HO.out
              unfold setR at h
              rw [if_neg h1, if_neg (fun h => by have h5 := h.2; simp only at h5; omega)] at h
              rw [List.append_assoc]
              exact h)
            clear HO
            go_wp2_with (at_builtin; refine wpList_append_moved _ rfl _ _ 26 rfl w.heap.size 53 i0 _ 3 24 undIHld hi0 hz0 hz1 hz2 rfl (by decide) _ on (cellsL hldC o) rfl (HO2.out.alloc _) ⟨W2.heap.size, 0, none⟩ 1 1 [.int .i64 xa, .int .i64 xb, .int .i64 xc] rfl rfl (new_cells _ _ _ _ rfl) (by intro u hu; simp at hu; rcases hu with rfl | rfl | rfl <;> rfl) (by decide) (by unfold maxLen; omega) (by omega) (by simp; have := HS2.out; omega) ?_; intro v7 w7 hown7 hgr7 hmv7)
            have hB7 : Below w.heap.size w w7 := below_row (HO2.out.alloc _) (HW2.out.alloc HW2.out.size _) hgr7 (by simp; have := HS2.out; omega)
            have HB7 := Lib.hid hB7
            have HO7 := Lib.hid hown7
            clear hB7 hown7 hgr7 hmv7
            go_roundw
            case rel =>
              have el : (o ++ [⟨xa, xb, xc⟩] : List Hld).length = on + 1 := by rw [List.length_append, ← HON.out]; rfl
              refine ⟨k + 1, false, o ++ [⟨xa, xb, xc⟩], by first | rfl | go_num, rfl, by omega, by rw [el]; omega, HO3, Lib.hid ?_, HB7⟩
              rw [el, ← cellsL_snoc]
              exact HO7.out
            case measure => simp [RowKit.intOf]; omega
          · subst h2
            have h3 : xb ≠ who := fun e => h1 ⟨rfl, e⟩
            have hbf : (xb == who) = false := beq_eq_false_iff_ne.2 h3
            have hgt : ¬ xa < xa := by omega
            by_cases h4 : xb < who
            · have hgt2 : ¬ who < xb := by omega
              have HO3 : Hid ((o ++ [⟨xa, xb, xc⟩]) ++ setR xa who q false (l.drop (k + 1)) = R) := Lib.hid (by
                have h := HO.out
                unfold setR at h
                rw [if_neg h1, if_neg (fun h => by have h5 := h.2; simp only at h5; omega)] at h
                rw [List.append_assoc]
                exact h)
              clear HO
              go_wp2_with (at_builtin; refine wpList_append_moved _ rfl _ _ 26 rfl w.heap.size 53 i0 _ 3 24 undIHld hi0 hz0 hz1 hz2 rfl (by decide) _ on (cellsL hldC o) rfl (HO2.out.alloc _) ⟨W2.heap.size, 0, none⟩ 1 1 [.int .i64 xa, .int .i64 xb, .int .i64 xc] rfl rfl (new_cells _ _ _ _ rfl) (by intro u hu; simp at hu; rcases hu with rfl | rfl | rfl <;> rfl) (by decide) (by unfold maxLen; omega) (by omega) (by simp; have := HS2.out; omega) ?_; intro v7 w7 hown7 hgr7 hmv7)
              have hB7 : Below w.heap.size w w7 := below_row (HO2.out.alloc _) (HW2.out.alloc HW2.out.size _) hgr7 (by simp; have := HS2.out; omega)
              have HB7 := Lib.hid hB7
              have HO7 := Lib.hid hown7
              clear hB7 hown7 hgr7 hmv7
              go_roundw
              case rel =>
                have el : (o ++ [⟨xa, xb, xc⟩] : List Hld).length = on + 1 := by rw [List.length_append, ← HON.out]; rfl
                refine ⟨k + 1, false, o ++ [⟨xa, xb, xc⟩], by first | rfl | go_num, rfl, by omega, by rw [el]; omega, HO3, Lib.hid ?_, HB7⟩
                rw [el, ← cellsL_snoc]
                exact HO7.out
              case measure => simp [RowKit.intOf]; omega
            · have hgt2 : who < xb := by omega
              have HO3 : Hid ((o ++ [⟨xa, who, q⟩] ++ [⟨xa, xb, xc⟩]) ++ setR xa who q true (l.drop (k + 1)) = R) := Lib.hid (by
                have h := HO.out
                unfold setR at h
                rw [if_neg h1, if_pos ⟨rfl, Or.inr ⟨rfl, hgt2⟩⟩] at h
                rw [List.append_assoc, List.append_assoc]
                exact h)
              clear HO
              go_upto_region 10 with (at_builtin; refine wpList_append_moved _ rfl _ _ 26 rfl w.heap.size 53 i0 _ 3 24 undIHld hi0 hz0 hz1 hz2 rfl (by decide) _ on (cellsL hldC o) rfl (HO2.out.alloc _) ⟨W2.heap.size, 0, none⟩ 1 1 [.int .i64 xa, .int .i64 who, .int .i64 q] rfl rfl (new_cells _ _ _ _ rfl) (by intro u hu; simp at hu; rcases hu with rfl | rfl | rfl <;> rfl) (by decide) (by unfold maxLen; omega) (by omega) (by simp; have := HS2.out; omega) ?_; intro v7 w7 hown7 hgr7 hmv7)
              have hB7 : Below w.heap.size w w7 := below_row (HO2.out.alloc _) (HW2.out.alloc HW2.out.size _) hgr7 (by simp; have := HS2.out; omega)
              have hX7 := (hgr7.block bX (by simp; have := HBL.out; omega) (fun e => HLT.out _ e.symm rfl)).trans ((heap_alloc_old W2 _ HBL.out).trans HX2.out)
              have e0 := obj_cell hX7 0
              have e1 := obj_cell hX7 1
              have e2 := obj_cell hX7 2
              simp at e0 e1 e2
              have HB7 := Lib.hid hB7
              have HO7 := Lib.hid hown7
              clear hB7 hown7 hgr7 hmv7 hX7 d0 d1 d2
              go_wp2_with (at_builtin; refine wpList_append_moved _ rfl _ _ 26 rfl w.heap.size 53 i0 _ 3 24 undIHld hi0 hz0 hz1 hz2 rfl (by decide) _ (on + 1) _ rfl (HO7.out.alloc _) ⟨w7.heap.size, 0, none⟩ 1 1 [.int .i64 xa, .int .i64 xb, .int .i64 xc] rfl rfl (new_cells _ _ _ _ rfl) (by intro u hu; simp at hu; rcases hu with rfl | rfl | rfl <;> rfl) (by decide) (by unfold maxLen; omega) (by omega) (by simp; have := HB7.out.size; omega) ?_; intro v8 w8 hown8 hgr8 hmv8)
              have hB8 : Below w.heap.size w w8 := below_row (HO7.out.alloc _) (HB7.out.alloc HB7.out.size _) hgr8 (by simp; have := HB7.out.size; omega)
              have HB8 := Lib.hid hB8
              have HO8 := Lib.hid hown8
              clear hB8 hown8 hgr8 hmv8
              go_roundw
              case rel =>
                have el : (o ++ [⟨xa, who, q⟩] ++ [⟨xa, xb, xc⟩] : List Hld).length = on + 1 + 1 := by rw [List.length_append, List.length_append, ← HON.out]; rfl
                refine ⟨k + 1, true, o ++ [⟨xa, who, q⟩] ++ [⟨xa, xb, xc⟩], by first | rfl | go_num, rfl, by omega, by rw [el]; omega, HO3, Lib.hid ?_, HB8⟩
                rw [el, ← cellsL_snoc, ← cellsL_snoc]
                exact HO8.out
              case measure => simp [RowKit.intOf]; omega
          · have hbe : (xa == id) = false := beq_eq_false_iff_ne.2 (by omega)
            have HO3 : Hid ((o ++ [⟨id, who, q⟩] ++ [⟨xa, xb, xc⟩]) ++ setR id who q true (l.drop (k + 1)) = R) := Lib.hid (by
              have h := HO.out
              unfold setR at h
              rw [if_neg h1, if_pos ⟨rfl, Or.inl h2⟩] at h
              rw [List.append_assoc, List.append_assoc]
              exact h)
            clear HO
            go_upto_region 10 with (at_builtin; refine wpList_append_moved _ rfl _ _ 26 rfl w.heap.size 53 i0 _ 3 24 undIHld hi0 hz0 hz1 hz2 rfl (by decide) _ on (cellsL hldC o) rfl (HO2.out.alloc _) ⟨W2.heap.size, 0, none⟩ 1 1 [.int .i64 id, .int .i64 who, .int .i64 q] rfl rfl (new_cells _ _ _ _ rfl) (by intro u hu; simp at hu; rcases hu with rfl | rfl | rfl <;> rfl) (by decide) (by unfold maxLen; omega) (by omega) (by simp; have := HS2.out; omega) ?_; intro v7 w7 hown7 hgr7 hmv7)
            have hB7 : Below w.heap.size w w7 := below_row (HO2.out.alloc _) (HW2.out.alloc HW2.out.size _) hgr7 (by simp; have := HS2.out; omega)
            have hX7 := (hgr7.block bX (by simp; have := HBL.out; omega) (fun e => HLT.out _ e.symm rfl)).trans ((heap_alloc_old W2 _ HBL.out).trans HX2.out)
            have e0 := obj_cell hX7 0
            have e1 := obj_cell hX7 1
            have e2 := obj_cell hX7 2
            simp at e0 e1 e2
            have HB7 := Lib.hid hB7
            have HO7 := Lib.hid hown7
            clear hB7 hown7 hgr7 hmv7 hX7 d0 d1 d2
            go_wp2_with (at_builtin; refine wpList_append_moved _ rfl _ _ 26 rfl w.heap.size 53 i0 _ 3 24 undIHld hi0 hz0 hz1 hz2 rfl (by decide) _ (on + 1) _ rfl (HO7.out.alloc _) ⟨w7.heap.size, 0, none⟩ 1 1 [.int .i64 xa, .int .i64 xb, .int .i64 xc] rfl rfl (new_cells _ _ _ _ rfl) (by intro u hu; simp at hu; rcases hu with rfl | rfl | rfl <;> rfl) (by decide) (by unfold maxLen; omega) (by omega) (by simp; have := HB7.out.size; omega) ?_; intro v8 w8 hown8 hgr8 hmv8)
            have hB8 : Below w.heap.size w w8 := below_row (HO7.out.alloc _) (HB7.out.alloc HB7.out.size _) hgr8 (by simp; have := HB7.out.size; omega)
            have HB8 := Lib.hid hB8
            have HO8 := Lib.hid hown8
            clear hB8 hown8 hgr8 hmv8
            go_roundw
            case rel =>
              have el : (o ++ [⟨id, who, q⟩] ++ [⟨xa, xb, xc⟩] : List Hld).length = on + 1 + 1 := by rw [List.length_append, List.length_append, ← HON.out]; rfl
              refine ⟨k + 1, true, o ++ [⟨id, who, q⟩] ++ [⟨xa, xb, xc⟩], by first | rfl | go_num, rfl, by omega, by rw [el]; omega, HO3, Lib.hid ?_, HB8⟩
              rw [el, ← cellsL_snoc, ← cellsL_snoc]
              exact HO8.out
            case measure => simp [RowKit.intOf]; omega
    · obtain rfl : k = n := by omega
      have HE : Hid (o ++ (if p then [] else [⟨id, who, q⟩]) = R) := Lib.hid (by
        have h := HO.out
        rw [HN.out, List.drop_length] at h
        exact h)
      clear HO
      cases p with
      | true =>
        go_wp2
        go_ret
        have e : R = o := by rw [← HE.out]; simp
        rw [e, ← HON.out]
        exact ⟨_, rfl, HOWN.out, HB.out⟩
      | false =>
        have hbn := below_alloc wr (.cells #[.int .i64 id, .int .i64 who, .int .i64 q] 53)
        have HO2 := Lib.hid (ownsRow_below HOWN.out hbn)
        have HB2 := Lib.hid (HB.out.trans (hbn.mono HB.out.size))
        have hs2 := HB.out.size
        clear hbn
        go_wp2_with (at_builtin; refine wpList_append_moved _ rfl _ _ 26 rfl w.heap.size 53 i0 _ 3 24 undIHld hi0 hz0 hz1 hz2 rfl (by decide) _ on (cellsL hldC o) rfl HO2.out ⟨wr.heap.size, 0, none⟩ 1 1 [.int .i64 id, .int .i64 who, .int .i64 q] rfl rfl (new_cells _ _ _ _ rfl) (by intro u hu; simp at hu; rcases hu with rfl | rfl | rfl <;> rfl) (by decide) (by unfold maxLen; omega) (by omega) (by simp; omega) ?_; intro v7 w7 hown7 hgr7 hmv7)
        go_ret
        have e : R = o ++ [⟨id, who, q⟩] := by rw [← HE.out]; simp
        have e2 : R.length = on + 1 := by rw [e, List.length_append, ← HON.out]; rfl
        refine ⟨_, rfl, ?_, below_row HO2.out HB2.out hgr7 HB2.out.size⟩
        rw [e2, e, ← cellsL_snoc]
        exact hown7

end Go.Proofs.Ytblidmkkbcobgaa
