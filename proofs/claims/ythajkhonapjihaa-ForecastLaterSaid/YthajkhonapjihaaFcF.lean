/- Contracts of forecast's Check and Project, and of the reference's comparison of positions; for flows within bounds. -/
import Derived.Test.YthajkhonapjihaaSfFlow
import Derived.Test.YthajkhonapjihaaMonF
import Derived.Test.YthajkhonapjihaaCalD
import Derived.Shelf.Abstract
import Derived.Laws.StructEq
set_option linter.unusedSimpArgs false
set_option linter.unusedVariables false
namespace Go.Proofs.Ythajkhonapjihaa
open Go.RowKit Go.Lib Go.Proofs

set_option maxHeartbeats 400000 in
theorem fcwithin_any (n lo hi : Int) (w : World) :
    Calls Try.prog 38 #[.int .i64 n, .int .i64 lo, .int .i64 hi] w fun e w' => e = .returned (.bool (inB n lo hi)) ∧ w = w' := by
  by_cases h1 : lo ≤ n
  · by_cases h2 : n ≤ hi
    · rw [show inB n lo hi = true from inB_true.2 ⟨h1, h2⟩]
      go_enter Try.func38, Try.ntmps38
      go_wp2
      go_ret
      exact ⟨rfl, rfl⟩
    · rw [show inB n lo hi = false from inB_false.2 (fun q => h2 q.2)]
      go_enter Try.func38, Try.ntmps38
      go_wp2
      go_ret
      exact ⟨rfl, rfl⟩
  · rw [show inB n lo hi = false from inB_false.2 (fun q => h1 q.1)]
    go_enter Try.func38, Try.ntmps38
    go_wp2
    go_ret
    exact ⟨rfl, rfl⟩
theorem fcwithin_yes {n lo hi : Int} (w : World) (h1 : lo ≤ n) (h2 : n ≤ hi) : Calls Try.prog 38 #[.int .i64 n, .int .i64 lo, .int .i64 hi] w fun e w' => e = .returned (.bool true) ∧ w = w' := by
  have := fcwithin_any n lo hi w; rw [inB_true.2 ⟨h1, h2⟩] at this; exact this
theorem fcwithin_no {n lo hi : Int} (w : World) (h : ¬ (lo ≤ n ∧ n ≤ hi)) : Calls Try.prog 38 #[.int .i64 n, .int .i64 lo, .int .i64 hi] w fun e w' => e = .returned (.bool false) ∧ w = w' := by
  have := fcwithin_any n lo hi w; rw [inB_false.2 h] at this; exact this
theorem fcwithin_eq {n lo hi : Int} {c : Bool} (h : inB n lo hi = c) (w : World) : Calls Try.prog 38 #[.int .i64 n, .int .i64 lo, .int .i64 hi] w fun e w' => e = .returned (.bool c) ∧ w = w' := by
  have := fcwithin_any n lo hi w; rw [h] at this; exact this


set_option maxHeartbeats 1000000 in
theorem fcvalid_ok {D : Int} (hD : D ≤ 36000) {f : Flw} (h : FlwOk D f) (w : World) : Calls Try.prog 27 #[.agg (flowC f).toArray] w fun e w' => e = .returned (.bool true) ∧ Below w.heap.size w w' := by
  obtain ⟨d, a, k, r⟩ := f
  obtain ⟨h1, h2, h3, h4, h5, h6, h7, h8, h9⟩ := h
  simp only [flowC] at *
  have HV := Lib.hid (fun W => cValid_yes (n := d) W (dayB_true.2 ⟨h1, by omega⟩))
  have hne : (a != 0) = true := by rw [bne_iff_ne]; exact h3
  go_enter Try.func27, Try.ntmps27
  go_wp2_with (first | (go_at_call 20; refine (HV.out _).mono ?_; rintro e w' ⟨rfl, rfl⟩) | (go_at_call 38; refine (fcwithin_yes _ (by omega) (by omega)).mono ?_; rintro e w' ⟨rfl, rfl⟩))
  go_ret
  exact ⟨rfl, below_alloc w _⟩

set_option maxHeartbeats 400000 in
theorem fcCheckC_ok {D : Int} (hD : D ≤ 36000) {f : Flw} (h : FlwOk D f) (w : World) : Calls Try.prog 26 #[.agg (flowC f).toArray] w fun e w' => e = .returned (.bool false) ∧ Below w.heap.size w w' := by
  have HV := Lib.hid (fun W => fcvalid_ok hD h W)
  obtain ⟨d, a, k, r⟩ := f
  simp only [flowC] at *
  have HB := Lib.hid (below_alloc w (.cells #[.int .i64 d, .int .i64 a, .int .i64 k, .int .i64 r] 38))
  clear h
  go_enter Try.func26, Try.ntmps26
  go_wp2_with (go_at_call 27; refine (HV.out _).mono ?_; rintro e w2 ⟨rfl, b2⟩)
  go_ret
  exact ⟨rfl, HB.out.trans (b2.mono HB.out.size)⟩

set_option maxHeartbeats 400000 in
theorem fcCheck_ok {D : Int} (hD : D ≤ 36000) {l : List Flw} (h : FlwsOk D l) (hl : l.length ≤ 400) (v : Value) (w : World) (hv : ListAt flowC 4 w v l) : Calls Try.prog 18 #[v] w fun e w' => e = .returned (.int .i64 0) ∧ Below w.heap.size w w' := by
  have HC := Lib.hid (flowContains_any 26 #[] (enters_of Try.func26 (by kernel_rfl) rfl) (fun _ => false) l v w hv (by omega) fun x hx W _ => by
    have := fcCheckC_ok hD (h x hx) W
    simpa using this)
  rw [show (l.any fun _ => false) = false from List.any_eq_false.2 fun x hx => by simp] at HC
  obtain ⟨ao, cap, rfl, hcap, _⟩ := hv.shape flowF
  have hn : ¬ (400 : Int) < (l.length : Int) := by omega
  clear h hv
  go_enter Try.func18, Try.ntmps18
  go_wp2_with (go_at_call 25; refine (HC.out).mono ?_; rintro e w1 ⟨rfl, hb⟩)
  go_ret
  exact ⟨rfl, hb⟩

theorem pos_neq_same (x y : Int) (W : World) : (binOp .neq 33 (.agg #[.int .i64 x, .int .i64 y]) (.agg #[.int .i64 x, .int .i64 y])).run Try.prog W = .ok (.bool false) W := by
  rw [run_neq_struct]
  simp [go_sem]

set_option maxHeartbeats 4000000 in
theorem r29Positions_same (ps : List Pos) (hlen : ps.length ≤ 1000000) (u v : Value) (w : World) (hu : ListAt posC 2 w u ps) (hv : ListAt posC 2 w v ps) :
    Calls Try.prog 11 #[u, v] w fun e w' => e = .returned (.bool true) ∧ Below w.heap.size w w' := by
  obtain ⟨ao, cap, rfl, hcap, hc⟩ := hu.shape posF
  obtain ⟨ao2, cap2, rfl, hcap2, hc2⟩ := hv.shape posF
  obtain ⟨n, hn⟩ : ∃ n, n = ps.length := ⟨_, rfl⟩
  have HN := Lib.hid hn
  have HC := Lib.hid hc
  have HC2 := Lib.hid hc2
  rw [← hn] at hlen hcap hcap2 ⊢
  clear hn hu hv hc hc2
  go_enter Try.func11, Try.ntmps11
  go_wp2
  go_loopw [13] (fun i wr => ∃ k : Nat, i = .int .i64 k ∧ k ≤ n ∧ Hid (Below w.heap.size w wr)) (fun i _ => n - (RowKit.intOf i).toNat)
  case atStart => exact ⟨0, rfl, by omega, Lib.hid (Below.refl _ _)⟩
  case round =>
    obtain ⟨k, rfl, hkn, HB⟩ := hrel
    by_cases hlt : k < n
    · have hlx : k < ps.length := by rw [← HN.out]; exact hlt
      obtain ⟨b, o, rfl, hb, hcc⟩ := HC.out (by omega)
      obtain ⟨b2, o2, rfl, hb2, hcc2⟩ := HC2.out (by omega)
      have hcell := fun j (hj : j < 2) => (HB.out.cell (p := ⟨b, o + k * 2 + j, none⟩) hb).trans (hcc k hlx j hj)
      have hcell2 := fun j (hj : j < 2) => (HB.out.cell (p := ⟨b2, o2 + k * 2 + j, none⟩) hb2).trans (hcc2 k hlx j hj)
      generalize ps[k] = x at *
      obtain ⟨d, r⟩ := x
      have c0 := hcell 0 (by omega)
      have c1 := hcell 1 (by omega)
      have e0 := hcell2 0 (by omega)
      have e1 := hcell2 1 (by omega)
      simp [posC] at c0 c1 e0 e1
      have hk0 : (0 : Int) ≤ (k : Int) := by omega
      have hk1 : (k : Int) < (n : Int) := by omega
      have hne := pos_neq_same d r
      have HB2 : Hid (∀ q, Below w.heap.size w (wr.drewN q)) := Lib.hid fun q => below_drewN HB.out q
      clear hcell hcell2 hcc hcc2 HC HC2
      go_wp2
      go_quiet (fail)
      go_wp2
      go_roundw
      case rel => exact ⟨k + 1, by first | rfl | go_num, by omega, Lib.hid (HB2.out _)⟩
      case measure => simp [RowKit.intOf]; omega
    · obtain rfl : k = n := by omega
      clear HC HC2
      go_wp2
      go_ret
      exact ⟨rfl, HB.out⟩

/-- What Project hands back. -/
def ProjPost (o from_ : Int) (l : List Flw) (n : Nat) (w : World) (e : Ending) (w' : World) : Prop := ∃ v, e = .returned (.tuple #[v, .int .i64 0]) ∧ w'.ownsRow w.heap.size 33 2 v n (cellsL posC (projL o from_ l n)) ∧ Below w.heap.size w w'

set_option maxHeartbeats 8000000 in
theorem fcProject_ok {D : Int} (hD : D ≤ 36000) {l : List Flw} (h : FlwsOk D l) (hl : l.length ≤ 40) (v : Value) (w : World) (hv : ListAt flowC 4 w v l) (o a b : Int) (n : Nat) (o0 : -1000000000 ≤ o) (o1 : o ≤ 1000000000) (a0 : 0 ≤ a) (b1 : b ≤ 36000) (hn : b = a + n - 1) (hn1 : n ≤ 500) (a1 : a ≤ 36000) (b0 : 0 ≤ b) :
    Calls Try.prog 10 #[.int .i64 o, v, .int .i64 a, .int .i64 b] w (ProjPost o a l n w) := by
  obtain ⟨i0, hi0, hz0, hz1, hz2⟩ := info_parts Try.infoPos
  have HCK := Lib.hid (fun W (hW : Below w.heap.size w W) => fcCheck_ok hD h (by omega) v W (hv.below hW))
  have HTO := Lib.hid (fun W => Total_yes (n := o) W (by omega) (by omega))
  have HV1 := Lib.hid (fun W => cValid_yes (n := a) W (dayB_true.2 ⟨a0, a1⟩))
  have HV2 := Lib.hid (fun W => cValid_yes (n := b) W (dayB_true.2 ⟨b0, b1⟩))
  have HBK := Lib.hid (fun k (hk : k ≤ n) => show -1000000000 - 20000000 ≤ balK o a l k ∧ balK o a l k ≤ 1000000000 + 20000000 from by
    have h1 := balK_in o a h k
    have h2 : 1000 * (l.length : Int) * (k : Int) ≤ 1000 * 40 * 500 := Int.mul_le_mul (by omega) (by omega) (by omega) (by omega)
    omega)
  have HDA := Lib.hid (fun d (k : Nat) => dayAmt_in (D := D) d (l := l.take k) fun f hf => h f (List.mem_of_mem_take hf))
  have HOKF := Lib.hid h
  obtain ⟨ao, cap, rfl, hcap, hc⟩ := hv.shape flowF
  obtain ⟨m, hm⟩ : ∃ m, m = l.length := ⟨_, rfl⟩
  have HM := Lib.hid hm
  have HC := Lib.hid hc
  rw [← hm] at HCK hl hcap ⊢
  have HNN := Lib.hid hn
  have hspan : ¬ (1000 : Int) < b - a + 1 := by omega
  clear h hv hc hm hn
  go_enter Try.func10, Try.ntmps10
  go_wp2_with fail
  with_reducible refine (HCK.out _ (Below.refl _ _)).mono ?_
  rintro e w1 ⟨rfl, b1'⟩
  have HB1 := Lib.hid b1'
  clear b1' HCK
  go_wp2_with (first | (go_at_call 19; go_loud (refine (HTO.out _).mono ?_); rintro e w' ⟨rfl, rfl⟩) | (go_at_call 20; (first | with_reducible refine Calls.mono (HV1.out _) ?_ | with_reducible refine Calls.mono (HV2.out _) ?_); rintro e w' ⟨rfl, rfl⟩))
  go_loopw [0, 11, 12] (fun ov pv dv wr => ∃ (k : Nat) (x d : Int), ov = .int .i64 x ∧ dv = .int .i64 d ∧ Hid (x = balK o a l k) ∧ d = a + k ∧ k ≤ n ∧ wr.ownsRow w.heap.size 33 2 pv k (cellsL posC (projL o a l k)) ∧ Hid (Below w.heap.size w wr)) (fun _ _ dv _ => (b + 1 - RowKit.intOf dv).toNat)
  case atStart => exact ⟨0, o, a, rfl, rfl, Lib.hid rfl, by omega, by omega, World.ownsRow_nil _ _ _ _, HB1⟩
  case round =>
    clear HB1
    obtain ⟨k, x, d, rfl, rfl, HX, hd, hk, hown, HB⟩ := hrel
    by_cases hlt : k < n
    · have hdb : d ≤ b := by have := HNN.out; omega
      have HOW := Lib.hid hown
      have HD := Lib.hid hd
      have hd0 : 0 ≤ d := by omega
      have hd1 : d ≤ 36000 := by omega
      obtain ⟨x0, x1⟩ := HBK.out k hk
      rw [← HX.out] at x0 x1
      clear hown hd
      go_wp2
      go_loopw [0, 48] (fun ov iv wx => ∃ (j : Nat) (y : Int), ov = .int .i64 y ∧ iv = .int .i64 j ∧ Hid (y = x + dayAmt d (l.take j)) ∧ j ≤ m ∧ Hid (Below wr.heap.size wr wx)) (fun _ iv _ => m - (RowKit.intOf iv).toNat)
      case atStart => exact ⟨0, x, rfl, rfl, Lib.hid (by simp [dayAmt]), by omega, Lib.hid (Below.refl _ _)⟩
      case round =>
        obtain ⟨j, y, rfl, rfl, HY, hj, HBX⟩ := hrel
        have hda := HDA.out d j
        have htl : (l.take j).length ≤ j := by simp; omega
        have hyb := HY.out
        have y0 : -2000000000 ≤ y := by omega
        have y1 : y ≤ 2000000000 := by omega
        clear hda htl hyb
        by_cases hjm : j < m
        · have hlx : j < l.length := by rw [← HM.out]; exact hjm
          obtain ⟨bk, of, rfl, hb, hcc⟩ := HC.out (by omega)
          have hbe := HB.out.trans (HBX.out.mono HB.out.size)
          have hcell := fun q (hq : q < 4) => (hbe.cell (p := ⟨bk, of + j * 4 + q, none⟩) hb).trans (hcc j hlx q hq)
          have htk : dayAmt d (l.take (j + 1)) = dayAmt d (l.take j) + (if l[j].day = d then l[j].amt else 0) := by rw [List.take_succ_eq_append_getElem hlx, dayAmt_snoc]
          have hfo := HOKF.out l[j] (List.getElem_mem hlx)
          have f0 := hfo.a0
          have f1 := hfo.a1
          clear hfo
          generalize l[j] = f at *
          obtain ⟨fd, fa, fk, fr⟩ := f
          simp only at htk f0 f1
          have c0 := hcell 0 (by omega)
          have c1 := hcell 1 (by omega)
          have c2 := hcell 2 (by omega)
          have c3 := hcell 3 (by omega)
          simp [flowC] at c0 c1 c2 c3
          have hk0 : (0 : Int) ≤ (j : Int) := by omega
          have hk1 : (j : Int) < (m : Int) := by omega
          have HTK := Lib.hid htk
          have HBX2 := Lib.hid (HBX.out.alloc HBX.out.size (.cells #[.int .i64 fd, .int .i64 fa, .int .i64 fk, .int .i64 fr] 38))
          clear hcell hcc hbe htk HC HBK HDA
          by_cases hfd : fd = d
          · have hfe : (fd == d) = true := by rw [beq_iff_eq]; exact hfd
            rw [if_pos hfd] at HTK
            clear hfd
            go_wp2
            go_roundw
            case rel => exact ⟨j + 1, y + fa, by first | rfl | go_num, by first | rfl | go_num, Lib.hid (by rw [HTK.out, HY.out]; omega), by omega, HBX2⟩
            case measure => simp [RowKit.intOf]; omega
          · have hfe : (fd == d) = false := by rw [beq_eq_false_iff_ne]; exact hfd
            rw [if_neg hfd] at HTK
            clear hfd
            go_wp2
            go_roundw
            case rel => exact ⟨j + 1, y, by first | rfl | go_num, by first | rfl | go_num, Lib.hid (by rw [HTK.out, HY.out]; omega), by omega, HBX2⟩
            case measure => simp [RowKit.intOf]; omega
        · obtain rfl : j = m := by omega
          have hall : l.take j = l := by rw [HM.out]; exact List.take_length
          have hyy : y = balK o a l (k + 1) := by rw [HY.out, hall, HX.out, HD.out]; rfl
          have HYY := Lib.hid hyy
          have hown3 := ownsRow_below HOW.out HBX.out
          have hle := HB.out.size
          have hle2 := HBX.out.size
          clear hyy HC HBK HDA HOKF
          go_wp2_with (first | (go_at_call 19; refine (Total_yes _ (by omega) (by omega)).mono ?_; rintro e w' ⟨rfl, rfl⟩) | (at_builtin; refine wpList_append_own _ rfl _ _ 28 rfl w.heap.size 33 i0 (.agg #[.int .i64 0, .int .i64 0]) 2 16 Try.underlying28 hi0 hz0 hz1 hz2 rfl (by decide) _ _ _ rfl (hown3.alloc _) ⟨wr.heap.size, 0, none⟩ 1 1 (posC ⟨d, y⟩) rfl rfl (new_cells _ _ _ _ rfl) (pos_one _) (by unfold maxLen; omega) (by omega) (by simp; omega) ?_; intro v' w4 hown4 hgr4 _))
          go_roundw
          case rel =>
            refine ⟨k + 1, y, d + 1, by first | rfl | go_num, by first | rfl | go_num, HYY, by have := HD.out; omega, by omega, ?_, Lib.hid (((HB.out.trans (HBX.out.mono HB.out.size)).alloc (by omega) _).grown hgr4 (by simp; omega) fun r hr => by have := ownBlock_le hown3 r hr; omega)⟩
            have h5 := cellsL_snoc posC (projL o a l k) ⟨d, y⟩
            rw [h5] at hown4
            rw [projL_snoc, ← HYY.out, ← HD.out]
            exact hown4
          case measure => simp [RowKit.intOf]; omega
    · obtain rfl : k = n := by omega
      have hdb : b < d := by have := HNN.out; omega
      clear HC HBK HDA HOKF
      go_wp2
      go_ret2
      exact ⟨_, rfl, hown, HB.out⟩

end Go.Proofs.Ythajkhonapjihaa
