/- forecast.Shift, where no flow falls out. -/
import Derived.Test.YthajkhonapjihaaFcA
set_option linter.unusedSimpArgs false
set_option linter.unusedVariables false
namespace Go.Proofs.Ythajkhonapjihaa
open Go.RowKit Go.Lib Go.Proofs

def shiftF (a b : Int) (f : Flw) : Flw := ⟨if a ≤ f.day then f.day + b else f.day, f.amt, f.kind, f.ref⟩
theorem shift_ok {a b : Int} (b0 : 0 ≤ b) (b1 : b ≤ 19) {l : List Flw} (h : FlwsOk 29 l) : FlwsOk 48 (l.map (shiftF a b)) := by
  intro f hf
  obtain ⟨g, hg, rfl⟩ := List.mem_map.1 hf
  have k := h g hg
  have := k.d0
  have := k.d1
  have hd : 0 ≤ (shiftF a b g).day ∧ (shiftF a b g).day ≤ 48 := by
    unfold shiftF
    by_cases hc : a ≤ g.day
    · simp only [if_pos hc]; omega
    · simp only [if_neg hc]; omega
  exact ⟨hd.1, hd.2, k.nz, k.a0, k.a1, k.k0, k.k1, k.r0, k.r1⟩

theorem ownBlock_new {w : World} {base : Nat} {e : TypeId} {size : Nat} {v : Value} {n : Nat} {xs : List Value} (h : w.ownsRow base e size v n xs) : v.ownBlock = none ∨ v.ownBlock ≠ some w.heap.size := Or.inr fun he => absurd (h.lt _ he).2 (by omega)

set_option maxHeartbeats 8000000 in
theorem fcShift_ok {l : List Flw} (h : FlwsOk 29 l) (hl : l.length ≤ 9) (v : Value) (w : World) (hv : ListAt flowC 4 w v l) (a b : Int) (a0 : 0 ≤ a) (a1 : a ≤ 100) (b0 : 0 ≤ b) (b1 : b ≤ 19) :
    Calls Try.prog 13 #[v, .int .i64 a, .int .i64 b] w fun e w' => ∃ v', e = .returned (.tuple #[v', .int .i64 0]) ∧ ∃ l' : List Flw, l'.Perm (l.map (shiftF a b)) ∧ w'.ownsRow w.heap.size 38 4 v' l.length (cellsL flowC l') ∧ Below w.heap.size w w' := by
  obtain ⟨i0, hi0, hz0, hz1, hz2⟩ := info_parts Try.infoFlow
  have HCK := Lib.hid (fcCheck_ok (D := 29) (by decide) h (by omega) v w hv)
  have HV := Lib.hid (fun (d : Int) (h0 : 0 ≤ d) (h1 : d ≤ 36000) W => cValid_yes (n := d) W (dayB_true.2 ⟨h0, h1⟩))
  have HOKF := Lib.hid h
  obtain ⟨ao, cap, rfl, hcap, hc⟩ := hv.shape flowF
  obtain ⟨m, hm⟩ : ∃ m, m = l.length := ⟨_, rfl⟩
  have HM := Lib.hid hm
  have HC := Lib.hid hc
  rw [← hm] at HCK hl hcap ⊢
  have HOR := Lib.hid (fun (L : List Flw) (h : L.length < 20) v base w ho hb => ordered_any L h v base w ho hb)
  unfold OrdPost at HOR
  have hb2 : ¬ b < 0 := by omega
  have hb3 : ¬ (1000 : Int) < b := by omega
  have hb4 : ¬ (500 : Int) < b := by omega
  clear h hv hc hm
  go_enter Try.func13, Try.ntmps13
  go_wp2_with fail
  with_reducible refine Calls.mono (HCK.out) ?_
  rintro e w1 ⟨rfl, b1'⟩
  have HB1 := Lib.hid b1'
  clear b1' HCK
  go_wp2
  go_loopw [9, 25] (fun nv iv wr => ∃ (j : Nat), iv = .int .i64 (j : Int) ∧ j ≤ m ∧ wr.ownsRow w.heap.size 38 4 nv j (cellsL flowC ((l.take j).map (shiftF a b))) ∧ Hid (Below w.heap.size w wr)) (fun _ iv _ => m - (RowKit.intOf iv).toNat)
  case atStart => exact ⟨0, rfl, by omega, World.ownsRow_nil _ _ _ _, HB1⟩
  case round =>
    clear HB1
    obtain ⟨j, rfl, hj, hown, HB⟩ := hrel
    by_cases hlt : j < m
    · have hlx : j < l.length := by rw [← HM.out]; exact hlt
      obtain ⟨bk, of, rfl, hbk, hcc⟩ := HC.out (by omega)
      have hcell := fun q (hq : q < 4) => (HB.out.cell (p := ⟨bk, of + j * 4 + q, none⟩) hbk).trans (hcc j hlx q hq)
      have hfo := HOKF.out l[j] (List.getElem_mem hlx)
      have f0 := hfo.d0
      have f1 := hfo.d1
      have htk : cellsL flowC ((l.take j).map (shiftF a b)) ++ flowC (shiftF a b l[j]) = cellsL flowC ((l.take (j + 1)).map (shiftF a b)) := by rw [cellsL_snoc, List.take_succ_eq_append_getElem hlx, List.map_append]; rfl
      generalize l[j] = f at *
      obtain ⟨fd, fa, fk, fr⟩ := f
      have c0 := hcell 0 (by omega)
      have c1 := hcell 1 (by omega)
      have c2 := hcell 2 (by omega)
      have c3 := hcell 3 (by omega)
      simp [flowC] at c0 c1 c2 c3
      simp only [shiftF] at htk
      simp only at f0 f1
      have hj0 : (0 : Int) ≤ (j : Int) := by omega
      have hj1 : (j : Int) < (m : Int) := by omega
      have HOW := Lib.hid hown
      obtain ⟨xs, hxs⟩ : ∃ xs, xs = cellsL flowC ((l.take j).map (shiftF a b)) := ⟨_, rfl⟩
      obtain ⟨ys, hys⟩ : ∃ ys, ys = cellsL flowC ((l.take (j + 1)).map (shiftF a b)) := ⟨_, rfl⟩
      rw [← hxs] at HOW htk
      rw [← hys] at htk
      have HYS := Lib.hid hys
      clear hown hcell hcc hfo hxs hys
      by_cases had : a ≤ fd
      · rw [if_pos had] at htk
        have HTK := Lib.hid htk
        have HVD := Lib.hid (fun W => HV.out (fd + b) (by omega) (by omega) W)
        clear htk HV
        have HOW2 := Lib.hid (HOW.out.alloc (.cells #[.int .i64 (fd + b), .int .i64 fa, .int .i64 fk, .int .i64 fr] 38))
        go_wp2_with (first | (go_at_call 20; with_reducible refine Calls.mono (HVD.out _) ?_; rintro e w' ⟨rfl, rfl⟩) | (at_builtin; go_loud (refine wpList_append_own _ rfl _ _ 25 rfl w.heap.size 38 i0 (.agg #[.int .i64 0, .int .i64 0, .int .i64 0, .int .i64 0]) 4 32 Try.underlying25 hi0 hz0 hz1 hz2 rfl (by decide) _ _ _ rfl (HOW2.out.alloc _) ⟨wr.heap.size + 1, 0, none⟩ 1 1 (flowC ⟨fd + b, fa, fk, fr⟩) rfl rfl (new_cells _ _ _ _ (by simp)) (flowF.one _) (by unfold maxLen; omega) (by omega) (by simp; exact Nat.le_trans HB.out.size (by omega)) ?_); intro v' w4 hown4 hgr4 _))
        go_roundw
        case rel =>
          refine ⟨j + 1, by first | rfl | go_num, by omega, ?_, Lib.hid ?_⟩
          · rw [HTK.out, HYS.out] at hown4; exact hown4
          · have hB2 := HB.out.alloc HB.out.size (.cells #[.int .i64 (fd + b), .int .i64 fa, .int .i64 fk, .int .i64 fr] 38)
            have hB3 := hB2.alloc hB2.size (.cells #[.int .i64 (fd + b), .int .i64 fa, .int .i64 fk, .int .i64 fr] 38)
            exact hB3.trans ⟨hgr4.os, hgr4.tape, hgr4.output, hgr4.size, fun k hk => hgr4.block k (Nat.lt_of_lt_of_le hk hB3.size) (fun e => absurd (ownBlock_le HOW.out k e.symm) (by omega))⟩
        case measure => simp [RowKit.intOf]; omega
      · rw [if_neg had] at htk
        have HTK := Lib.hid htk
        have HVD := Lib.hid (fun W => HV.out fd (by omega) (by omega) W)
        clear htk HV
        have HOW2 := Lib.hid (HOW.out.alloc (.cells #[.int .i64 fd, .int .i64 fa, .int .i64 fk, .int .i64 fr] 38))
        go_wp2_with (first | (go_at_call 20; with_reducible refine Calls.mono (HVD.out _) ?_; rintro e w' ⟨rfl, rfl⟩) | (at_builtin; go_loud (refine wpList_append_own _ rfl _ _ 25 rfl w.heap.size 38 i0 (.agg #[.int .i64 0, .int .i64 0, .int .i64 0, .int .i64 0]) 4 32 Try.underlying25 hi0 hz0 hz1 hz2 rfl (by decide) _ _ _ rfl (HOW2.out.alloc _) ⟨wr.heap.size + 1, 0, none⟩ 1 1 (flowC ⟨fd, fa, fk, fr⟩) rfl rfl (new_cells _ _ _ _ (by simp)) (flowF.one _) (by unfold maxLen; omega) (by omega) (by simp; exact Nat.le_trans HB.out.size (by omega)) ?_); intro v' w4 hown4 hgr4 _))
        go_roundw
        case rel =>
          refine ⟨j + 1, by first | rfl | go_num, by omega, ?_, Lib.hid ?_⟩
          · rw [HTK.out, HYS.out] at hown4; exact hown4
          · have hB2 := HB.out.alloc HB.out.size (.cells #[.int .i64 fd, .int .i64 fa, .int .i64 fk, .int .i64 fr] 38)
            have hB3 := hB2.alloc hB2.size (.cells #[.int .i64 fd, .int .i64 fa, .int .i64 fk, .int .i64 fr] 38)
            exact hB3.trans ⟨hgr4.os, hgr4.tape, hgr4.output, hgr4.size, fun k hk => hgr4.block k (Nat.lt_of_lt_of_le hk hB3.size) (fun e => absurd (ownBlock_le HOW.out k e.symm) (by omega))⟩
        case measure => simp [RowKit.intOf]; omega
    · obtain rfl : j = m := by omega
      have htk : l.take j = l := List.take_of_length_le (by rw [← HM.out]; exact Nat.le_refl _)
      have hlen : (l.map (shiftF a b)).length = j := by rw [List.length_map]; exact HM.out.symm
      rw [htk] at hown
      have HO := Lib.hid (HOR.out (l.map (shiftF a b)) (by rw [hlen]; omega) _ w.heap.size wr (by rw [hlen]; exact hown) HB.out.size)
      rw [hlen] at HO
      clear htk hlen hown HOR HC HV
      go_wp2_with fail
      with_reducible refine Calls.mono (HO.out) ?_
      rintro e w9 ⟨v9, rfl, l', h1, h2, h3, h4⟩
      have H1 := Lib.hid h1
      have H3 := Lib.hid h3
      have H4 := Lib.hid h4
      clear h1 h2 h3 h4 HO
      go_wp2
      go_ret2
      exact ⟨_, rfl, l', H1.out, H3.out, HB.out.trans H4.out⟩

end Go.Proofs.Ythajkhonapjihaa
