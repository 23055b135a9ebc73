/- The ledger's reference: Listed, Balances of right ledgers; ListedSame of a list and itself. -/
import Derived.Test.YtknmgkjfopoinaaGreatDoorMCs5
import Derived.Laws.StructEq
import Derived.BigQuiet
set_option linter.unusedSimpArgs false
set_option linter.unusedVariables false
set_option linter.unusedSimpArgs false
set_option linter.unusedVariables false
namespace Go.Proofs.YtknmgkjfopoinaaGreatDoor
open Go.RowKit Go.Lib Go.Proofs

structure Blc where
  acct : Int
  amt : Int
def balC (x : Blc) : List Value := [.int .i64 x.acct, .int .i64 x.amt]
theorem balF : Fields balC 2 := ⟨fun _ => rfl, fun _ u hu => by simp only [balC, List.mem_cons, List.mem_nil_iff, or_false] at hu; rcases hu with rfl | rfl <;> rfl, by decide⟩
theorem Tryz.infoBal : (Tryz.prog.info? 79).map (fun i => (i.zero, i.size, i.bytes)) = some (some (.agg #[.int .i64 0, .int .i64 0]), 2, 16) := by kernel_rfl
/-- The balances that are not 0, by account. -/
def balsN (F : Nat → Int) : Nat → List Blc
  | 0 => []
  | n + 1 => balsN F n ++ (if F n = 0 then [] else [⟨100 + (n : Int), F n⟩])
theorem balsN_len (F : Nat → Int) : ∀ n, (balsN F n).length ≤ n
  | 0 => Nat.le_refl _
  | n + 1 => by
    have := balsN_len F n
    rw [balsN, List.length_append]
    split <;> simp <;> omega
theorem bal_neq_same (x y : Int) (W : World) : (binOp .neq 79 (.agg #[.int .i64 x, .int .i64 y]) (.agg #[.int .i64 x, .int .i64 y])).run Tryz.prog W = .ok (.bool false) W := by
  rw [run_neq_struct]
  simp [go_sem]

set_option maxHeartbeats 4000000 in
theorem rgListedSame_same (ps : List Blc) (hlen : ps.length ≤ 1000000) (u v : Value) (w : World) (hu : ListAt balC 2 w u ps) (hv : ListAt balC 2 w v ps) :
    Calls Tryz.prog 18 #[u, v] w fun e w' => e = .returned (.bool true) ∧ Below w.heap.size w w' := by
  obtain ⟨ao, cap, rfl, hcap, hc⟩ := hu.shape balF
  obtain ⟨ao2, cap2, rfl, hcap2, hc2⟩ := hv.shape balF
  obtain ⟨n, hn⟩ : ∃ n, n = ps.length := ⟨_, rfl⟩
  have HN := Lib.hid hn
  have HC := Lib.hid hc
  have HC2 := Lib.hid hc2
  rw [← hn] at hlen hcap hcap2 ⊢
  clear hn hu hv hc hc2
  go_enter Tryz.func18, Tryz.ntmps18
  go_wp2
  go_loopw [13] (fun i wr => ∃ k : Nat, i = .int .i64 k ∧ k ≤ n ∧ Hid (Below w.heap.size w wr)) (fun i _ => n - (RowKit.intOf i).toNat)
  case atStart => exact ⟨0, rfl, by omega, Lib.hid (Below.refl _ _)⟩
  case round =>
    obtain ⟨k, rfl, hkn, HB⟩ := hrel
    by_cases hlt : k < n
    · have hlx : k < ps.length := by rw [← HN.out]; exact hlt
      obtain ⟨b, o, rfl, hb, hcc⟩ := HC.out (by omega)
      obtain ⟨b2, o2, rfl, hb2, hcc2⟩ := HC2.out (by omega)
      have hcell := fun j (hj : j < 2) => (HB.out.cell (p := ⟨b, o + k * 2 + j, none⟩) hb).trans (hcc k hlx j hj)
      have hcell2 := fun j (hj : j < 2) => (HB.out.cell (p := ⟨b2, o2 + k * 2 + j, none⟩) hb2).trans (hcc2 k hlx j hj)
      generalize ps[k] = x at *
      obtain ⟨d, r⟩ := x
      have c0 : wr.cell? ⟨b, o + k * 2, none⟩ = some (.int .i64 d) := hcell 0 (by omega)
      have c1 : wr.cell? ⟨b, o + k * 2 + 1, none⟩ = some (.int .i64 r) := hcell 1 (by omega)
      have e0 : wr.cell? ⟨b2, o2 + k * 2, none⟩ = some (.int .i64 d) := hcell2 0 (by omega)
      have e1 : wr.cell? ⟨b2, o2 + k * 2 + 1, none⟩ = some (.int .i64 r) := hcell2 1 (by omega)
      have hk0 : (0 : Int) ≤ (k : Int) := by omega
      have hk1 : (k : Int) < (n : Int) := by omega
      have hne := bal_neq_same d r
      have HB2 : Hid (∀ q, Below w.heap.size w (wr.drewN q)) := Lib.hid fun q => below_drewN HB.out q
      clear hcell hcell2 hcc hcc2 HC HC2
      go_wp2
      go_quiet (fail)
      go_wp2
      go_roundw
      case rel => exact ⟨k + 1, by first | rfl | go_num, by omega, Lib.hid (HB2.out _)⟩
      case measure => simp [RowKit.intOf]; omega
    · obtain rfl : k = n := by omega
      clear HC HC2
      go_wp2
      go_ret
      exact ⟨rfl, HB.out⟩

set_option maxRecDepth 100000 in
set_option maxHeartbeats 4000000 in
theorem rgListed_any (F : Nat → Int) (w : World) : Calls Tryz.prog 41 #[.agg (arrC F)] w fun e w' => ∃ u, e = .returned u ∧ w'.ownsRow w.heap.size 79 2 u (balsN F 500).length (cellsL balC (balsN F 500)) ∧ Below w.heap.size w w' := by
  obtain ⟨i0, hi0, hz0, hz1, hz2⟩ := info_parts Tryz.infoBal
  obtain ⟨hz, hsz⟩ := zero_of_info Tryz.infoArr
  have HSZ := Lib.hid hsz
  obtain ⟨w0, hw0⟩ : ∃ W, W = w.alloc (.cells (arrC F) 67) := ⟨_, rfl⟩
  have HB0 : Hid (Below w.heap.size w w0) := Lib.hid (by rw [hw0]; exact below_alloc w _)
  have HX0 : Hid (w0.heap[w.heap.size]? = some (.cells (arrC F) 67 (0, 0))) := Lib.hid (by rw [hw0]; exact heap_alloc_new w _)
  have HW0 := Lib.hid hw0
  have HA : Hid (∀ i : Nat, i < 500 → ∀ W, (Instr.index 67 (.agg (arrC F)) (.int .i64 (i : Int))).run Tryz.prog W = .ok (.int .i64 (F i)) W) := Lib.hid fun i hi W => by
    have hu : Tryz.prog.underlying 67 = some (.array 500 3) := by kernel_rfl
    have hcg := arrC_get F hi
    have h0 : (0 : Int) ≤ (i : Int) := by omega
    have h5 : (i : Int) < 500 := by omega
    simp [Instr.index, go_sem, run_underlying hu, h0, h5, hcg, part]
    intro hx
    omega
  have HL : Hid (∀ n, (balsN F n).length ≤ n) := Lib.hid (balsN_len F)
  have HSN : Hid (∀ n, F n ≠ 0 → cellsL balC (balsN F (n + 1)) = cellsL balC (balsN F n) ++ balC ⟨100 + (n : Int), F n⟩ ∧ (balsN F (n + 1)).length = (balsN F n).length + 1) := Lib.hid fun n hn => by
    rw [balsN, if_neg hn, cellsL_snoc]
    exact ⟨rfl, by simp⟩
  have HSZ0 : Hid (∀ n, F n = 0 → balsN F (n + 1) = balsN F n) := Lib.hid fun n hn => by rw [balsN, if_pos hn, List.append_nil]
  clear hw0 hz hsz
  obtain ⟨bA, hbA⟩ : ∃ b, b = w.heap.size := ⟨_, rfl⟩
  have HBA := Lib.hid hbA
  clear hbA
  go_enter Tryz.func41, Tryz.ntmps41
  go_upto_region 2 with fail
  rw [← HW0.out, ← HBA.out]
  rw [← HBA.out] at HX0
  go_wp2_with fail
  rename_i hK
  have hu : Tryz.prog.underlying 67 = some (.array 500 3) := by kernel_rfl
  have hsz := HSZ.out
  rw [← arrC_size F] at hsz
  refine wp_load_row 67 (.tmp 1) rfl bA rfl 67 (arrC F) (0, 0) (.array 500 3) HX0.out hu rfl hsz ?_
  refine hK _ _ ?_
  clear hK hsz hu
  go_wp2
  go_loopw [3, 7] (fun lv iv wr => ∃ j : Nat, iv = .int .i64 j ∧ j ≤ 500 ∧ Hid (wr.ownsRow w.heap.size 79 2 lv (balsN F j).length (cellsL balC (balsN F j))) ∧ Hid (Below w.heap.size w wr)) (fun _ iv _ => 500 - (RowKit.intOf iv).toNat)
  case atStart => exact ⟨0, rfl, by omega, Lib.hid (World.ownsRow_nil _ _ _ _), HB0⟩
  case round =>
    clear HB0 HX0 HW0
    obtain ⟨j, rfl, hj5, HO, HB⟩ := hrel
    by_cases hlt : j < 500
    · have hix := HA.out j hlt wr
      have hj0 : (0 : Int) ≤ (j : Int) := by omega
      have hj1 : (j : Int) < 500 := by omega
      have hwj : IntKind.i64.wrap ((j : Int) + 1) = (j : Int) + 1 := IntWalk.i64_in _ (by omega)
      have hwa : IntKind.i64.wrap ((j : Int) + 100) = 100 + (j : Int) := by rw [show (j : Int) + 100 = 100 + (j : Int) by omega]; exact IntWalk.i64_in _ (by omega)
      have hlen := HL.out j
      obtain ⟨L, hL⟩ : ∃ L, L = (balsN F j).length := ⟨_, rfl⟩
      have HSJ := HSN.out j
      have HZJ := HSZ0.out j
      rw [← hL] at HO hlen HSJ
      obtain ⟨q, hq⟩ : ∃ q, q = F j := ⟨_, rfl⟩
      rw [← hq] at hix HSJ HZJ
      have HSJ := Lib.hid HSJ
      have HZJ := Lib.hid HZJ
      have HLL := Lib.hid hL
      obtain ⟨av, cv, rfl, hcv, -⟩ := owns_gen HO.out
      clear hL hq
      by_cases hz : q = 0
      · have hzb : (q != 0) = false := by rw [bne_eq_false_iff_eq]; exact hz
        have hz2 := HZJ.out hz
        have HO2 : Hid (wr.ownsRow w.heap.size 79 2 (.slice av L cv) (balsN F (j + 1)).length (cellsL balC (balsN F (j + 1)))) := Lib.hid (by rw [hz2, ← HLL.out]; exact HO.out)
        clear hz hz2
        go_wp2
        go_roundw
        case rel => exact ⟨j + 1, by first | rfl | go_num, by omega, HO2, HB⟩
        case measure => simp [RowKit.intOf]; omega
      · have hzb : (q != 0) = true := by rw [bne_iff_ne]; exact hz
        obtain ⟨hs1, hs2⟩ := HSJ.out hz
        have HS1 := Lib.hid hs1
        have HS2 := Lib.hid hs2
        clear hz hs1 hs2
        go_wp2_with (at_builtin; refine wpList_append_own _ rfl _ _ 50 rfl w.heap.size 79 i0 (.agg #[.int .i64 0, .int .i64 0]) 2 16 Tryz.underlying50 hi0 hz0 hz1 hz2 rfl (by decide) _ _ _ rfl (HO.out.alloc _) ⟨wr.heap.size, 0, none⟩ 1 1 (balC ⟨100 + (j : Int), q⟩) rfl rfl (new_cells _ _ _ _ rfl) (balF.one _) (by unfold maxLen; omega) (by omega) (by have := HB.out.size; simp; omega) ?_; intro v' w9 hown9 hgr9 _)
        have HO9 : Hid (w9.ownsRow w.heap.size 79 2 v' (balsN F (j + 1)).length (cellsL balC (balsN F (j + 1)))) := Lib.hid (by rw [HS1.out, HS2.out]; exact hown9)
        have HB9 : Hid (Below w.heap.size w w9) := Lib.hid ((HB.out.alloc HB.out.size _).grown hgr9 (by have := HB.out.size; simp; omega) fun j e => ownBlock_le HO.out j e)
        clear hown9 hgr9
        go_wp2
        go_roundw
        case rel => exact ⟨j + 1, by first | rfl | go_num, by omega, HO9, HB9⟩
        case measure => simp [RowKit.intOf]; omega
    · obtain rfl : j = 500 := by omega
      go_wp2
      go_ret
      exact ⟨_, rfl, HO.out, HB.out⟩

set_option maxRecDepth 100000 in
set_option maxHeartbeats 1000000 in
/-- Balances of a right ledger. -/
theorem rgBalances_right {l : List Pst} (h : LdgOk l) (ee k : Int) (v : Value) (w : World) (hl : PstsAt w v l) (he : ee ≠ 0) :
    Calls Tryz.prog 19 #[.agg #[v], .int .i64 ee, .int .i64 k] w fun e w' => ∃ u, e = .returned u ∧ ListAt balC 2 w' u (balsN (fun i : Nat => ofM ee (byDay k) (100 + (i : Int)) l) 500) ∧ Below w.heap.size w w' := by
  have HCK := Lib.hid (fun W (hW : Below w.heap.size w W) => rgCheck_right h v W (hl.below hW))
  have HSM := Lib.hid (fun W (hW : Below w.heap.size w W) => rgSums_ok h ee k v W (hl.below hW) he)
  obtain ⟨w0, hw0⟩ : ∃ w0, w0 = w.alloc (.cells #[v] 27) := ⟨_, rfl⟩
  have HB0 : Hid (Below w.heap.size w w0) := Lib.hid (by rw [hw0]; exact below_alloc w _)
  have HX0 : Hid (w0.heap[w.heap.size]? = some (.cells #[v] 27 (0, 0))) := Lib.hid (by rw [hw0]; exact heap_alloc_new w _)
  obtain ⟨F, hF⟩ : ∃ F : Nat → Int, F = fun i : Nat => ofM ee (byDay k) (100 + (i : Int)) l := ⟨_, rfl⟩
  rw [← hF] at HSM ⊢
  have HWE := Lib.hid hw0
  clear h hl hF he hw0
  go_enter Tryz.func19, Tryz.ntmps19
  go_upto_region 1 with fail
  rw [← HWE.out]
  have hx := HX0.out
  have u0 := obj_cell hx 0
  simp at u0
  clear hx
  go_wp2_with fail
  refine (HCK.out _ HB0.out).mono ?_
  rintro e w1 ⟨rfl, hb1⟩
  have HB1 := Lib.hid (HB0.out.trans (hb1.mono HB0.out.size))
  have hx1 := obj_below HX0.out hb1
  have u1 := obj_cell hx1 0
  simp at u1
  clear hb1 hx1 u0 HCK
  go_wp2_with fail
  refine (HSM.out _ HB1.out).mono ?_
  rintro e w3 ⟨rfl, hb3⟩
  have HB3 := Lib.hid (HB1.out.trans (hb3.mono HB1.out.size))
  clear hb3 u1
  go_wp2_with fail
  with_reducible refine (rgListed_any F w3).mono ?_
  rintro e w4 ⟨u, rfl, ho4, hb4⟩
  have HO4 := Lib.hid (ListAt.owns ho4)
  have HB4 := Lib.hid (HB3.out.trans (hb4.mono HB3.out.size))
  clear ho4 hb4
  go_wp2
  go_ret
  exact ⟨u, rfl, HO4.out, HB4.out⟩

end Go.Proofs.YtknmgkjfopoinaaGreatDoor
