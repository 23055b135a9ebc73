/- taxes.Check of right taxes, flows and Expected of one right tax that brings something, all of whose days are wanted. -/
import Derived.Test.YtebgfbcojhmdlaaDoorTaP
import Derived.Test.YtebgfbcojhmdlaaDoorTaT
import Derived.Test.YtebgfbcojhmdlaaDoorSfTax
import Derived.Test.YtebgfbcojhmdlaaDoorFlowM
set_option linter.unusedSimpArgs false
set_option linter.unusedVariables false
namespace Go.Proofs.YtebgfbcojhmdlaaDoor
open Go.RowKit Go.Lib Go.Proofs

theorem Tryd.infoFlw : (Tryd.prog.info? 50).map (fun i => (i.zero, i.size, i.bytes)) = some (some (.agg #[.int .i64 0, .int .i64 0, .int .i64 0, .int .i64 0]), 4, 32) := by kernel_rfl
set_option maxRecDepth 100000 in
set_option maxHeartbeats 2000000 in
theorem taCheckC_no {t : Tx} (h : TxG t) (w : World) (hL : Lay w) : Calls Tryd.prog 33 #[.agg (txC t).toArray] w fun e w' => e = .returned (.bool false) ∧ Below w.heap.size w w' := by
  have HTX := Lib.hid (fun W (hW : Below w.heap.size w W) => taTax_yes h W (hL.below hW (Nat.le_refl _)))
  obtain ⟨c0, c1, c2, c3, c4, c5, c6, c7⟩ := t
  simp only [txC] at HTX ⊢
  obtain ⟨w1, hw1⟩ : ∃ W, W = w.alloc (.cells #[.string c0, .int .i64 c1, .int .i64 c2, .int .i64 c3, .int .i64 c4, .int .i64 c5, .int .i64 c6, .int .i64 c7] 27) := ⟨_, rfl⟩
  obtain ⟨bX, hbX⟩ : ∃ q, q = w.heap.size := ⟨_, rfl⟩
  have HB1 : Hid (Below w.heap.size w w1) := Lib.hid (by rw [hw1]; exact below_alloc _ _)
  have HX1 : Hid (w1.heap[bX]? = some (.cells #[.string c0, .int .i64 c1, .int .i64 c2, .int .i64 c3, .int .i64 c4, .int .i64 c5, .int .i64 c6, .int .i64 c7] 27 (0, 0))) := Lib.hid (by rw [hw1, hbX]; exact heap_alloc_new _ _)
  have HW1 := Lib.hid hw1
  have HBX := Lib.hid hbX
  have hx1 := HX1.out
  have q0 := obj_cell hx1 0
  have q1 := obj_cell hx1 1
  have q2 := obj_cell hx1 2
  have q3 := obj_cell hx1 3
  have q4 := obj_cell hx1 4
  have q5 := obj_cell hx1 5
  have q6 := obj_cell hx1 6
  have q7 := obj_cell hx1 7
  simp at q0 q1 q2 q3 q4 q5 q6 q7
  clear hw1 hbX hx1 h hL
  go_enter Tryd.func33, Tryd.ntmps33
  go_upto_region 1 with fail
  rw [← HW1.out, ← HBX.out]
  go_wp2_with fail
  refine (HTX.out _ HB1.out).mono ?_
  rintro e w2 ⟨rfl, hb2⟩
  have HB2 := Lib.hid (HB1.out.trans (hb2.mono HB1.out.size))
  clear hb2
  go_wp2
  go_ret
  exact ⟨rfl, HB2.out⟩
set_option maxHeartbeats 2000000 in
theorem taCheck_yes {l : List Tx} (h : ∀ t ∈ l, TxG t) (hlen : l.length ≤ 20) (v : Value) (w : World) (hL : Lay w) (hl : ListAt txC 8 w v l) : Calls Tryd.prog 26 #[v] w fun e w' => e = .returned (.int .i64 0) ∧ Below w.heap.size w w' := by
  have HC := Lib.hid (txContains_any 33 #[] (enters_of Tryd.func33 (by kernel_rfl) rfl) (fun _ => false) l v w hl (by omega) (fun x hx W hW => by simpa using taCheckC_no (h x hx) W (hL.below hW (Nat.le_refl _))))
  have hany : (l.any fun _ => false) = false := by rw [List.any_eq_false]; simp
  rw [hany] at HC
  obtain ⟨ao, cap, rfl, hcap, -⟩ := hl.shape txF
  obtain ⟨n, hn⟩ : ∃ n, n = l.length := ⟨_, rfl⟩
  rw [← hn] at HC hlen ⊢
  have hn20 : ¬ 20 < (n : Int) := by omega
  clear hl h hany hn hL
  go_enter Tryd.func26, Tryd.ntmps26
  go_wp2_with fail
  refine (HC.out).mono ?_
  rintro e w1 ⟨rfl, hb1⟩
  have HB1 := Lib.hid hb1
  clear hb1
  go_wp2
  go_ret
  exact ⟨rfl, HB1.out⟩

/-- The flows of one tax. -/
def flT (t : Tx) (n : Nat) : List Flw := (List.range n).map fun i => ⟨dayT t i, amtT t, 3, 0⟩
theorem flT_len (t : Tx) (n : Nat) : (flT t n).length = n := by simp [flT]
theorem flT_succ (t : Tx) (n : Nat) : flT t (n + 1) = flT t n ++ [⟨dayT t n, amtT t, 3, 0⟩] := by simp [flT, List.range_succ]

set_option maxRecDepth 100000 in
set_option maxHeartbeats 8000000 in
theorem taflows_one {t : Tx} (h : TxG t) (ha : amtT t ≠ 0) (f : Nat) (lb : Array Value) (eg : ∀ args w, (callFunc f args).run Tryd.prog w = .ok (.enter f args) w) (v : Value) (w : World) (hL : Lay w) (hl : ListAt txC 8 w v [t])
    (hp : ∀ i, i < t.tms.toNat → ∀ W, Below w.heap.size w W → Calls Tryd.prog f (#[.agg (txC t).toArray, .int .i64 (dayT t i)] ++ lb) W fun e W' => e = .returned (.bool true) ∧ Below W.heap.size W W') :
    Calls Tryd.prog 27 #[v, .func (.func f) #[] lb] w fun e w' => ∃ u l', e = .returned u ∧ l'.Perm (flT t t.tms.toNat) ∧ w'.ownsRow w.heap.size 50 4 u l'.length (cellsL flowC l') ∧ Below w.heap.size w w' := by
  obtain ⟨i0, hi0, hz0, hz1, hz2⟩ := info_parts Tryd.infoFlw
  have HAM := Lib.hid (fun W (hW : Below w.heap.size w W) => taAmount_ok h W (hL.below hW (Nat.le_refl _)))
  have HDS := Lib.hid (fun W (hW : Below w.heap.size w W) => taDays_ok h W (hL.below hW (Nat.le_refl _)))
  have htm := h.tms
  have HFS := Lib.hid (fun n => flT_succ t n)
  have HFL := Lib.hid (fun n => flT_len t n)
  have HDG := Lib.hid (fun i (hi : i < t.tms.toNat) => daysT_get t hi)
  have HF0 : Hid (flT t 0 = []) := Lib.hid rfl
  have HP := Lib.hid hp
  obtain ⟨ao, cap, rfl, hcap, hcs⟩ := hl.shape txF
  obtain ⟨bS, oS, rfl, hbS, hcc⟩ := hcs (by simp)
  have hcell := fun q (hq : q < 8) => hcc 0 (by simp) q hq
  simp only [List.getElem_cons_zero, Nat.zero_mul, Nat.add_zero] at hcell
  have HCELL := Lib.hid (fun W (hW : Below w.heap.size w W) q (hq : q < 8) => (hW.cell (p := ⟨bS, oS + q, none⟩) hbS).trans (hcell q hq))
  have HTX := Lib.hid h
  obtain ⟨n, hn⟩ : ∃ n, n = t.tms.toNat := ⟨_, rfl⟩
  have hn10 : n ≤ 10 := by omega
  obtain ⟨a, hae⟩ : ∃ a, a = amtT t := ⟨_, rfl⟩
  rw [← hae] at HAM HFS ha
  obtain ⟨FL, hFL⟩ : ∃ F, F = flT t := ⟨_, rfl⟩
  obtain ⟨DT, hDT⟩ : ∃ F, F = daysT t n := ⟨_, rfl⟩
  obtain ⟨YT, hYT⟩ : ∃ F, F = dayT t := ⟨_, rfl⟩
  rw [← hFL, ← hYT] at HFS
  rw [← hFL] at HFL HF0
  rw [← hn] at HDS HDG HP
  rw [← hDT] at HDS HDG
  rw [← hYT] at HDG HP
  rw [← hn, ← hFL]
  have HDL : Hid (DT.length = n) := Lib.hid (by rw [hDT]; exact daysT_len t n)
  have hab : (a == 0) = false := by rw [beq_eq_false_iff_ne]; exact ha
  clear hp hl hcs hcc hcell hn hae hFL hDT hYT ha h hL htm HTX
  obtain ⟨c0, c1, c2, c3, c4, c5, c6, c7⟩ := t
  simp only [txC, List.length_singleton] at HAM HDS HCELL HP ⊢
  go_enter Tryd.func27, Tryd.ntmps27
  go_wp2
  go_loopw [5, 13] (fun av kv wr => ∃ (k : Nat), kv = .int .i64 (k : Int) ∧ k ≤ 1 ∧ Hid (wr.ownsRow w.heap.size 50 4 av (if k = 0 then 0 else n) (cellsL flowC (FL (if k = 0 then 0 else n)))) ∧ Hid (Below w.heap.size w wr)) (fun _ kv _ => 1 - (RowKit.intOf kv).toNat)
  case atStart => exact ⟨0, rfl, by omega, Lib.hid (by rw [if_pos rfl, HF0.out]; exact World.ownsRow_nil _ _ _ _), Lib.hid (Below.refl _ _)⟩
  case round =>
    obtain ⟨k, rfl, hk1, HO, HB⟩ := hrel
    by_cases hk : k = 0
    · subst hk
      have hO := HO.out
      rw [if_pos rfl] at hO
      obtain ⟨av, cv, rfl, -, -⟩ := owns_gen hO
      have HO2 := Lib.hid hO
      clear hO HO
      have hcl := HCELL.out wr HB.out
      have q0 : wr.cell? ⟨bS, oS, none⟩ = some (.string c0) := hcl 0 (by omega)
      have q1 : wr.cell? ⟨bS, oS + 1, none⟩ = some (.int .i64 c1) := hcl 1 (by omega)
      have q2 : wr.cell? ⟨bS, oS + 2, none⟩ = some (.int .i64 c2) := hcl 2 (by omega)
      have q3 : wr.cell? ⟨bS, oS + 3, none⟩ = some (.int .i64 c3) := hcl 3 (by omega)
      have q4 : wr.cell? ⟨bS, oS + 4, none⟩ = some (.int .i64 c4) := hcl 4 (by omega)
      have q5 : wr.cell? ⟨bS, oS + 5, none⟩ = some (.int .i64 c5) := hcl 5 (by omega)
      have q6 : wr.cell? ⟨bS, oS + 6, none⟩ = some (.int .i64 c6) := hcl 6 (by omega)
      have q7 : wr.cell? ⟨bS, oS + 7, none⟩ = some (.int .i64 c7) := hcl 7 (by omega)
      clear hcl
      obtain ⟨w2, hw2⟩ : ∃ W, W = wr.alloc (.cells #[.string c0, .int .i64 c1, .int .i64 c2, .int .i64 c3, .int .i64 c4, .int .i64 c5, .int .i64 c6, .int .i64 c7] 27) := ⟨_, rfl⟩
      obtain ⟨bX, hbX⟩ : ∃ q, q = wr.heap.size := ⟨_, rfl⟩
      have hb2 : Below wr.heap.size wr w2 := by rw [hw2]; exact below_alloc _ _
      have HB2 : Hid (Below w.heap.size w w2) := Lib.hid (HB.out.trans (hb2.mono HB.out.size))
      have HX2 : Hid (w2.heap[bX]? = some (.cells #[.string c0, .int .i64 c1, .int .i64 c2, .int .i64 c3, .int .i64 c4, .int .i64 c5, .int .i64 c6, .int .i64 c7] 27 (0, 0))) := Lib.hid (by rw [hw2, hbX]; exact heap_alloc_new _ _)
      have HO3 := Lib.hid (ownsRow_below HO2.out hb2)
      have HW2 := Lib.hid hw2
      have HBX := Lib.hid hbX
      clear hw2 hbX hb2 HO2
      go_upto_region 5 with fail
      rw [← HW2.out, ← HBX.out]
      clear q0 q1 q2 q3 q4 q5 q6 q7
      have hx := HX2.out
      have q0 := obj_cell hx 0
      have q1 := obj_cell hx 1
      have q2 := obj_cell hx 2
      have q3 := obj_cell hx 3
      have q4 := obj_cell hx 4
      have q5 := obj_cell hx 5
      have q6 := obj_cell hx 6
      have q7 := obj_cell hx 7
      simp at q0 q1 q2 q3 q4 q5 q6 q7
      clear hx
      go_wp2_with fail
      refine (HAM.out _ HB2.out).mono ?_
      rintro e w3 ⟨rfl, hb3⟩
      have HB3 := Lib.hid (HB2.out.trans (hb3.mono HB2.out.size))
      have HX3 := Lib.hid (obj_below HX2.out hb3)
      have HO4 := Lib.hid (ownsRow_below HO3.out hb3)
      clear q0 q1 q2 q3 q4 q5 q6 q7 hb3 HX2 HO3
      have hx := HX3.out
      have q0 := obj_cell hx 0
      have q1 := obj_cell hx 1
      have q2 := obj_cell hx 2
      have q3 := obj_cell hx 3
      have q4 := obj_cell hx 4
      have q5 := obj_cell hx 5
      have q6 := obj_cell hx 6
      have q7 := obj_cell hx 7
      simp at q0 q1 q2 q3 q4 q5 q6 q7
      clear hx
      go_wp2_with fail
      refine (HDS.out _ HB3.out).mono ?_
      rintro e w4 ⟨dv, rfl, hod, hb4⟩
      have HB4 := Lib.hid (HB3.out.trans (hb4.mono HB3.out.size))
      have HX4 := Lib.hid (obj_below HX3.out hb4)
      have HO5 := Lib.hid (ownsRow_below HO4.out hb4)
      have HRD : Hid (RowAt w4 dv DT) := Lib.hid (RowAt.owns hod)
      obtain ⟨ad, cd, rfl, -, -⟩ := owns_gen hod
      have HOD := Lib.hid hod
      clear q0 q1 q2 q3 q4 q5 q6 q7 hb4 hod HX3 HO4
      go_wp2
      go_loopw [5, 25] (fun av jv wr => ∃ (j : Nat) (v : Value), av = v ∧ jv = .int .i64 (j : Int) ∧ j ≤ n ∧ Hid (wr.ownsRow w.heap.size 50 4 v j (cellsL flowC (FL j))) ∧ Hid (Below w.heap.size w wr) ∧ Hid (wr.heap[bX]? = some (.cells #[.string c0, .int .i64 c1, .int .i64 c2, .int .i64 c3, .int .i64 c4, .int .i64 c5, .int .i64 c6, .int .i64 c7] 27 (0, 0))) ∧ Hid (wr.ownsRow w3.heap.size 3 1 (.slice ad n cd) n (cellsI DT))) (fun _ jv _ => n - (RowKit.intOf jv).toNat)
      case atStart => exact ⟨0, _, rfl, rfl, by omega, HO5, HB4, HX4, HOD⟩
      case round =>
        clear HO5 HB4 HX4 HOD HRD
        obtain ⟨j, v, rfl, rfl, hjn, HO, HBJ, HX, HD⟩ := hrel
        obtain ⟨av, cv, rfl, -, -⟩ := owns_gen HO.out
        by_cases hlt : j < n
        · obtain ⟨gd, cd', hsl, hgd, -⟩ := owns_shape HD.out (by omega)
          simp only [Value.slice.injEq, true_and] at hsl
          obtain ⟨rfl, rfl⟩ := hsl
          have hdc : wr.cell? ⟨gd, j, none⟩ = some (.int .i64 (YT j)) := by
            have h1 := HD.out.cellAt j (by omega)
            rw [h1, cellsI_get DT j (by rw [HDL.out]; exact hlt), HDG.out j hlt]
          have hcall := HP.out j hlt wr HBJ.out
          have HFJ : Hid (cellsL flowC (FL (j + 1)) = cellsL flowC (FL j) ++ flowC ⟨YT j, a, 3, 0⟩) := Lib.hid (by rw [HFS.out j, cellsL_snoc])
          have HCALL := Lib.hid hcall
          generalize YT j = y at *
          clear hcall
          have hx := HX.out
          have q0 := obj_cell hx 0
          have q1 := obj_cell hx 1
          have q2 := obj_cell hx 2
          have q3 := obj_cell hx 3
          have q4 := obj_cell hx 4
          have q5 := obj_cell hx 5
          have q6 := obj_cell hx 6
          have q7 := obj_cell hx 7
          simp at q0 q1 q2 q3 q4 q5 q6 q7
          clear hx
          have hj0 : (0 : Int) ≤ (j : Int) := by omega
          have hj1 : (j : Int) < (n : Int) := by omega
          have hwj : IntKind.i64.wrap ((j : Int) + 1) = (j : Int) + 1 := IntWalk.i64_in _ (by omega)
          go_wp2_with fail
          with_reducible refine Calls.mono (HCALL.out) ?_
          rintro e w6 ⟨rfl, hb6⟩
          have HB6 := Lib.hid (HBJ.out.trans (hb6.mono HBJ.out.size))
          have HX6 := Lib.hid (obj_below HX.out hb6)
          have HO6 := Lib.hid (ownsRow_below HO.out hb6)
          have HD6 := Lib.hid (ownsRow_below HD.out hb6)
          clear hb6 q0 q1 q2 q3 q4 q5 q6 q7 hdc
          go_wp2_with (at_builtin; refine wpList_append_own _ rfl _ _ 44 rfl w.heap.size 50 i0 (.agg #[.int .i64 0, .int .i64 0, .int .i64 0, .int .i64 0]) 4 32 Tryd.underlying44 hi0 hz0 hz1 hz2 rfl (by decide) _ _ _ rfl (HO6.out.alloc _) ⟨w6.heap.size, 0, none⟩ 1 1 (flowC ⟨y, a, 3, 0⟩) rfl rfl (new_cells _ _ _ _ rfl) (flowF.one _) (by unfold maxLen; omega) (by omega) (by have := HB6.out.size; simp; omega) ?_; intro v' w9 hown9 hgr9 _)
          have HO9 : Hid (w9.ownsRow w.heap.size 50 4 v' (j + 1) (cellsL flowC (FL (j + 1)))) := Lib.hid (by rw [HFJ.out]; exact hown9)
          have HB9 : Hid (Below w.heap.size w w9) := Lib.hid ((HB6.out.alloc HB6.out.size _).grown hgr9 (by have := HB6.out.size; simp; omega) fun j e => ownBlock_le HO6.out j e)
          have HX9 : Hid (w9.heap[bX]? = some (.cells #[.string c0, .int .i64 c1, .int .i64 c2, .int .i64 c3, .int .i64 c4, .int .i64 c5, .int .i64 c6, .int .i64 c7] 27 (0, 0))) := Lib.hid ((hgr9.block bX (by have := obj_lt HX6.out; simp; omega) (own_ne3 HO6.out HX6.out (by decide))).trans (obj_below HX6.out (below_alloc _ _)))
          have HD9 : Hid (w9.ownsRow w3.heap.size 3 1 (.slice (some ⟨gd, 0, none⟩) n cd) n (cellsI DT)) := Lib.hid ((HD6.out.alloc _).kept hgr9 (Or.inr fun e => by
            rcases HD6.out.2 with ⟨h1, _⟩ | ⟨g2, c2, cur, h1, _, h3, _⟩
            · simp at h1
            · simp only [Value.slice.injEq, Option.some.injEq, Addr.mk.injEq, and_true, true_and] at h1
              obtain ⟨rfl, rfl⟩ := h1
              exact own_ne3 HO6.out h3 (by decide) e))
          clear hown9 hgr9
          go_wp2
          go_roundw
          case rel => exact ⟨j + 1, v', rfl, by first | rfl | go_num, by omega, HO9, HB9, HX9, HD9⟩
          case measure => simp [RowKit.intOf]; omega
        · obtain rfl : n = j := by omega
          go_wp2
          go_roundw
          case rel => exact ⟨1, by first | rfl | go_num, by omega, Lib.hid (by rw [if_neg (by decide)]; exact HO.out), HBJ⟩
          case measure => simp [RowKit.intOf]
    · obtain rfl : k = 1 := by omega
      have hO := HO.out
      rw [if_neg (by decide)] at hO
      have hfl := HFL.out n
      obtain ⟨aL, cL, rfl, -, -⟩ := owns_gen hO
      have HSO := Lib.hid (SortFlow_any (FL n) (by omega) (.slice aL n cL) w.heap.size wr (by rw [hfl]; exact hO) HB.out.size)
      have HLN := Lib.hid hfl
      clear hO hfl
      go_wp2_with fail
      refine (HSO.out).mono ?_
      rintro e w7 ⟨rfl, l', hpm, -, hown, hb⟩
      have HPM := Lib.hid hpm
      have HOW := Lib.hid hown
      have HBW := Lib.hid (HB.out.trans hb)
      clear hpm hown hb
      go_wp2
      go_ret
      exact ⟨_, l', rfl, HPM.out, by rw [HPM.out.length_eq]; exact HOW.out, HBW.out⟩

set_option maxHeartbeats 2000000 in
theorem taExpectedC_yes (t : Tx) (day lo hi : Int) (bF bT : Nat) (w : World) (h1 : lo ≤ day) (h2 : day ≤ hi) (hF : w.heap[bF]? = some (.cells #[.int .i64 lo] 3 (0, 0))) (hT : w.heap[bT]? = some (.cells #[.int .i64 hi] 3 (0, 0))) :
    Calls Tryd.prog 28 (#[.agg (txC t).toArray, .int .i64 day] ++ #[.pointer (some ⟨bF, 0, none⟩), .pointer (some ⟨bT, 0, none⟩)]) w fun e w' => e = .returned (.bool true) ∧ Below w.heap.size w w' := by
  obtain ⟨c0, c1, c2, c3, c4, c5, c6, c7⟩ := t
  simp only [txC]
  obtain ⟨w1, hw1⟩ : ∃ W, W = w.alloc (.cells #[.string c0, .int .i64 c1, .int .i64 c2, .int .i64 c3, .int .i64 c4, .int .i64 c5, .int .i64 c6, .int .i64 c7] 27) := ⟨_, rfl⟩
  have HB1 : Hid (Below w.heap.size w w1) := Lib.hid (by rw [hw1]; exact below_alloc _ _)
  have q0 := obj_cell (obj_below hF HB1.out) 0
  have q1 := obj_cell (obj_below hT HB1.out) 0
  simp at q0 q1
  have HW1 := Lib.hid hw1
  clear hw1 hF hT
  go_enter Tryd.func28, Tryd.ntmps28
  go_upto_region 1 with fail
  rw [← HW1.out]
  go_wp2
  go_ret
  exact ⟨rfl, HB1.out⟩

set_option maxRecDepth 100000 in
set_option maxHeartbeats 4000000 in
theorem taExpected_one {t : Tx} (h : TxG t) (ha : amtT t ≠ 0) {lo hi : Int} (hlo : ∀ i, i < t.tms.toNat → lo ≤ dayT t i ∧ dayT t i ≤ hi) (v : Value) (w : World) (hL : Lay w) (hl : ListAt txC 8 w v [t]) :
    Calls Tryd.prog 16 #[v, .int .i64 lo, .int .i64 hi] w fun e w' => ∃ u l', e = .returned (.tuple #[u, .int .i64 0]) ∧ l'.Perm (flT t t.tms.toNat) ∧ ListAt flowC 4 w' u l' ∧ Below w.heap.size w w' := by
  have HCK := Lib.hid (fun W (hW : Below w.heap.size w W) => taCheck_yes (l := [t]) (by simpa using h) (by simp) v W (hL.below hW (Nat.le_refl _)) (hl.below hW))
  obtain ⟨w0, hw0⟩ : ∃ W, W = (w.alloc (.cells #[.int .i64 lo] 3)).alloc (.cells #[.int .i64 hi] 3) := ⟨_, rfl⟩
  obtain ⟨bF, hbF⟩ : ∃ q, q = w.heap.size := ⟨_, rfl⟩
  obtain ⟨bT, hbT⟩ : ∃ q, q = w.heap.size + 1 := ⟨_, rfl⟩
  have HB0 : Hid (Below w.heap.size w w0) := Lib.hid (by rw [hw0]; exact below2 w _ _)
  have HF0 : Hid (w0.heap[bF]? = some (.cells #[.int .i64 lo] 3 (0, 0))) := Lib.hid (by rw [hw0, hbF]; exact alloc1_at w _ _)
  have HT0 : Hid (w0.heap[bT]? = some (.cells #[.int .i64 hi] 3 (0, 0))) := Lib.hid (by rw [hw0, hbT]; exact alloc2_at w _ _)
  have HFL := Lib.hid (fun W (hW : Below w0.heap.size w0 W) => taflows_one h ha 28 #[.pointer (some ⟨bF, 0, none⟩), .pointer (some ⟨bT, 0, none⟩)] (enters_of Tryd.func28 (by kernel_rfl) rfl) v W (hL.below (HB0.out.trans (hW.mono HB0.out.size)) (Nat.le_refl _)) (hl.below (HB0.out.trans (hW.mono HB0.out.size))) (fun i hlt W2 hW2 => taExpectedC_yes t _ lo hi bF bT W2 (hlo i hlt).1 (hlo i hlt).2 (obj_below HF0.out (hW.trans (hW2.mono hW.size))) (obj_below HT0.out (hW.trans (hW2.mono hW.size)))))
  have HFN := Lib.hid (flT_len t t.tms.toNat)
  have htm := h.tms
  obtain ⟨FL, hFL⟩ : ∃ F, F = flT t t.tms.toNat := ⟨_, rfl⟩
  rw [← hFL] at HFL HFN ⊢
  have HN : Hid (FL.length ≤ 10) := Lib.hid (by rw [HFN.out]; omega)
  obtain ⟨ao, cap, rfl, hcap, -⟩ := hl.shape txF
  have HW0 := Lib.hid hw0
  have HBF := Lib.hid hbF
  have HBT := Lib.hid hbT
  simp only [List.length_singleton] at HCK HFL ⊢
  clear hw0 hbF hbT hFL hl hL hlo h ha htm HFN
  go_enter Tryd.func16, Tryd.ntmps16
  go_upto_region 1 with fail
  rw [← HW0.out, ← HBT.out, ← HBF.out]
  go_wp2_with fail
  refine (HCK.out _ HB0.out).mono ?_
  rintro e w1 ⟨rfl, hb1⟩
  have HB1 := Lib.hid (HB0.out.trans (hb1.mono HB0.out.size))
  have HB01 := Lib.hid hb1
  clear hb1
  go_wp2_with fail
  refine (HFL.out _ HB01.out).mono ?_
  rintro e w2 ⟨u, l', rfl, hpm, hown, hb2⟩
  have HB2 := Lib.hid (HB1.out.trans (hb2.mono HB1.out.size))
  have hn := hpm.length_eq
  have HPM := Lib.hid hpm
  have HLL := Lib.hid (ListAt.owns hown)
  obtain ⟨au, cu, rfl, -, -⟩ := owns_gen hown
  have hn4 : ¬ 400 < (l'.length : Int) := by have := HN.out; omega
  clear hpm hown hb2 hn
  go_wp2
  go_ret2
  exact ⟨_, l', rfl, HPM.out, HLL.out, HB2.out⟩

end Go.Proofs.YtebgfbcojhmdlaaDoor
