/- Contracts of the account's reference: empty sub-accounts; an entry on top of balances. -/
import Derived.Test.YtoelidndnajedabMAcR
import Derived.StillTailTactics
import Derived.Deep.DeepCutAuto
import Derived.Deep.CutRange
set_option linter.unusedSimpArgs false
set_option linter.unusedVariables false
namespace Go.Proofs.Ytoelidndnajedab
open Go.RowKit Go.Lib Go.Proofs

theorem Try.infoU : (Try.prog.info? 62).map (fun i => (i.zero, i.size, i.bytes)) = some (some (.agg #[.int .i64 0, .int .i64 0]), 2, 16) := by kernel_rfl
theorem infoU_parts : ∃ i, Try.prog.info? 62 = some i ∧ i.zero = some (.agg #[.int .i64 0, .int .i64 0]) ∧ i.size = 2 ∧ i.bytes = 16 := info_parts Try.infoU

theorem sub_new (w : World) (x y : Value) (T : TypeId) (b : Nat) (hb : b = w.heap.size) : ∀ j u, [x, y][j]? = some u → (w.alloc (.cells #[x, y] T)).cell? ((⟨b, 0, none⟩ : Addr).add j) = some u := by
  subst hb
  intro j u hj
  match j, hj with
  | 0, hj => simp at hj; subst hj; simp [Addr.add]
  | 1, hj => simp at hj; subst hj; simp [Addr.add]
theorem sub_one (x y : Int) : ∀ u ∈ [Value.int .i64 x, Value.int .i64 y], u.oneCell' = true := by
  intro u hu
  simp only [List.mem_cons, List.mem_nil_iff, or_false] at hu
  rcases hu with rfl | rfl <;> rfl

/-- What hands back sub-accounts in a new row. -/
def OwnSubs (w : World) (m : List SubA) (e : Ending) (w' : World) : Prop := ∃ v, e = .returned v ∧ w'.ownsRow w.heap.size 62 2 v m.length (cellsU m) ∧ Below w.heap.size w w'

theorem emptyM_take_snoc {l : List SubA} {k : Nat} (hk : k < l.length) : emptyM (l.take (k + 1)) = emptyM (l.take k) ++ [⟨(subAt l k).id, 0⟩] := by
  rw [List.take_succ_eq_append_getElem hk, subAt_get hk]
  unfold emptyM
  rw [List.map_append]
  rfl
theorem emptyM_len (l : List SubA) : (emptyM l).length = l.length := by simp [emptyM]

set_option maxRecDepth 100000 in
set_option maxHeartbeats 2000000 in
theorem raempty_any (v : Value) (l : List SubA) (w : World) (h : SubsAt w v l) (hlen : l.length ≤ 1000000) : Calls Try.prog 64 #[v] w (OwnSubs w (emptyM l)) := by
  obtain ⟨i0, hi, hz0, hz1, hz2⟩ := infoU_parts
  obtain ⟨n, hn⟩ : ∃ n, n = l.length := ⟨_, rfl⟩
  have HN := Lib.hid hn
  have hnil : w.ownsRow w.heap.size 62 2 (.slice none 0 0) 0 (cellsU (emptyM (l.take 0))) := World.ownsRow_nil _ _ _ _
  have HNIL := Lib.hid hnil
  clear hnil
  rcases h.open with ⟨rfl, ao, cap, rfl⟩ | ⟨hpos, b, o, cap, rfl, hcap, hb, hc⟩
  · clear hn h hlen HN
    go_enter Try.func64, Try.ntmps64
    go_wp2
    go_loop [3, 8] (fun u i => u = .slice none 0 0 ∧ i = .int .i64 0) (fun _ _ => 0)
    case atStart => exact ⟨rfl, rfl⟩
    case round =>
      obtain ⟨rfl, rfl⟩ := hrel
      go_wp2
      go_ret
      exact ⟨_, rfl, HNIL.out, Below.refl _ _⟩
  · have HC := Lib.hid hc
    rw [← hn] at hpos hcap hlen ⊢
    clear hn hc h
    go_enter Try.func64, Try.ntmps64
    go_wp2
    go_loopw [3, 8] (fun u i wr => ∃ k : Nat, i = .int .i64 k ∧ k ≤ n ∧ Hid (wr.ownsRow w.heap.size 62 2 u k (cellsU (emptyM (l.take k)))) ∧ Hid (Below w.heap.size w wr)) (fun _ i _ => n - (RowKit.intOf i).toNat)
    case atStart => exact ⟨0, rfl, by omega, HNIL, Lib.hid (Below.refl _ _)⟩
    case round =>
      obtain ⟨k, rfl, hkn, HO, HB⟩ := hrel
      by_cases hlt : k < n
      · have hkl : k < l.length := by rw [← HN.out]; exact hlt
        have c0 : wr.cell? ⟨b, o + k * 2, none⟩ = some (.int .i64 (subAt l k).id) := (HB.out.cell (p := ⟨b, o + k * 2, none⟩) hb).trans (HC.out k hkl).1
        have c1 : wr.cell? ⟨b, o + k * 2 + 1, none⟩ = some (.int .i64 (subAt l k).bal) := (HB.out.cell (p := ⟨b, o + k * 2 + 1, none⟩) hb).trans (HC.out k hkl).2
        have hk0 : (0 : Int) ≤ (k : Int) := by omega
        have hk1 : (k : Int) < (n : Int) := by omega
        have HST := Lib.hid (emptyM_take_snoc hkl)
        generalize (subAt l k).id = x at *
        generalize (subAt l k).bal = y at *
        have HO2 : Hid ((wr.alloc (.cells #[.int .i64 x, .int .i64 y] 62)).ownsRow w.heap.size 62 2 u3 k (cellsU (emptyM (l.take k)))) := Lib.hid (HO.out.alloc _)
        have HB2 := Lib.hid (HB.out.alloc HB.out.size (.cells #[.int .i64 x, .int .i64 y] 62))
        go_wp2_with (at_builtin; refine wpList_append_own _ rfl _ _ 53 rfl w.heap.size 62 i0 (.agg #[.int .i64 0, .int .i64 0]) 2 16 Try.underlying53 hi hz0 hz1 hz2 rfl (by decide) _ _ _ rfl (HO2.out.alloc _) ⟨wr.heap.size + 1, 0, none⟩ 1 1 [.int .i64 x, .int .i64 0] rfl rfl (sub_new _ _ _ _ _ (by simp)) (sub_one _ _) (by unfold maxLen; omega) (by omega) (by have := HB2.out.size; simp at this ⊢; omega) ?_; intro v' w5 hown5 hgr5 _)
        have hB5 : Below w.heap.size w w5 := (HB2.out.alloc HB2.out.size _).grown hgr5 (by have := HB2.out.size; simp at this ⊢; omega) fun j e => ownBlock_le HO.out j e
        have HO5 := Lib.hid hown5
        have HB5 := Lib.hid hB5
        clear hown5 hB5 hgr5
        go_roundw
        case rel => exact ⟨k + 1, by go_num, by omega, Lib.hid (by rw [HST.out, cellsU_app]; exact HO5.out), HB5⟩
        case measure => simp [RowKit.intOf]; omega
      · obtain rfl : k = n := by omega
        go_wp2
        go_ret
        refine ⟨_, rfl, ?_, HB.out⟩
        have := HO.out
        rw [HN.out, List.take_length] at this
        rw [emptyM_len]
        exact this

/-- What add hands back. -/
def AddPost (w : World) : Except Int (List SubA) → Ending → World → Prop
  | .ok m, e, w' => ∃ v, e = .returned (.tuple #[v, .int .i64 0]) ∧ w'.ownsRow w.heap.size 62 2 v m.length (cellsU m) ∧ Below w.heap.size w w'
  | .error c, e, w' => e = .returned (.tuple #[.slice none 0 0, .int .i64 c]) ∧ Below w.heap.size w w'
theorem addM_fault {credit c : Int} {l : List SubA} {last e : Ent} (h : faultE l last e = c) (hc : c ≠ 0) : addM credit l last e = .error c := by
  unfold addM
  rw [if_neg (by rw [h]; exact hc), h]
theorem atI_ways (l : List SubA) (id : Int) : (atS l id = none ∧ atI l id = -1) ∨ ∃ i, atS l id = some i ∧ atI l id = (i : Int) := by
  unfold atI
  cases atS l id with
  | none => exact Or.inl ⟨rfl, rfl⟩
  | some i => exact Or.inr ⟨i, rfl, rfl⟩

set_option maxRecDepth 100000 in
set_option maxHeartbeats 4000000 in
theorem raadd_bad (cr : Int) (sv : Value) (l : List SubA) (last e : Ent) (w : World) (h : SubsAt w sv l) (hlen : l.length ≤ 1000) (hcr : amtB cr = true) (hbal : ∀ s ∈ l, -1000000000000 ≤ s.bal ∧ s.bal ≤ 1000000000000000) (n0 : -1000000000 ≤ last.number) (n1 : last.number ≤ 1000000000) (hbad : faultE l last e ≠ 0) :
    Calls Try.prog 58 #[.int .i64 cr, sv, .agg last.cells.toArray, .agg e.cells.toArray] w (AddPost w (addM cr l last e)) := by
  obtain ⟨i0, hi, hz0, hz1, hz2⟩ := infoU_parts
  have hcr' := inB_true.1 hcr
  have HBAL := Lib.hid hbal
  have HS := Lib.hid h
  have HAT := Lib.hid (fun id W (hW : Below w.heap.size w W) => raat_any sv l id W (h.below hW) (by omega))
  obtain ⟨l0, l1, l2, l3, l4, l5⟩ := last
  obtain ⟨e0, e1, e2, e3, e4, e5⟩ := e
  simp only [Ent.cells] at n0 n1 ⊢
  clear h hcr hbal
  by_cases hA : e0 = l0 + 1
  case neg =>
    have hA1 : (e0 == l0 + 1) = false := by rw [beq_eq_false_iff_ne]; exact hA
    rw [addM_fault (c := 65) (faultE_known hA) (by decide)]
    clear hA
    go_enter Try.func58, Try.ntmps58
    go_wp2
    go_ret2
    exact ⟨rfl, below2 w _ _⟩
  subst hA
  by_cases hB : e1 < l1
  · rw [addM_fault (c := 8) ((if_neg (fun h => h rfl)).trans (if_pos (Or.inl hB))) (by decide)]
    go_enter Try.func58, Try.ntmps58
    go_wp2
    go_ret2
    exact ⟨rfl, below2 w _ _⟩
  have HD := Lib.hid (fun W => raday_any e1 W)
  have HFB : Hid (faultE l ⟨l0, l1, l2, l3, l4, l5⟩ ⟨l0 + 1, e1, e2, e3, e4, e5⟩ = if dayB' e1 = false then 8 else if amtB e4 = false ∨ e4 = 0 ∨ e5 < 0 ∨ 1000000 < e5 then 2 else if e2 = e3 ∨ (e2 ≠ 0 ∧ atS l e2 = none) ∨ (e3 ≠ 0 ∧ atS l e3 = none) then 60 else 0) := Lib.hid (by
    unfold faultE
    simp only
    rw [if_neg (fun h => h rfl)]
    by_cases hd : dayB' e1 = false
    · rw [if_pos (Or.inr hd), if_pos hd]
    · rw [if_neg (by rintro (h | h) <;> contradiction), if_neg hd])
  cases hd : dayB' e1 with
  | false =>
    rw [hd] at HD HFB
    rw [addM_fault (c := 8) (HFB.out.trans (if_pos rfl)) (by decide)]
    clear hd HFB
    go_enter Try.func58, Try.ntmps58
    go_wp2_with (go_at_call 63; refine (HD.out _).mono ?_; rintro e w' ⟨rfl, rfl⟩)
    go_ret2
    exact ⟨rfl, below2 w _ _⟩
  | true =>
  rw [hd] at HD HFB
  clear hd
  have HV := Lib.hid (fun W => rvValid_any e4 W)
  cases hv : amtB e4 with
  | false =>
    rw [hv] at HV HFB
    rw [addM_fault (c := 2) ((HFB.out.trans (if_neg (by decide))).trans (if_pos (Or.inl rfl))) (by decide)]
    clear hv HFB
    go_enter Try.func58, Try.ntmps58
    go_wp2_with (first | (go_at_call 63; refine (HD.out _).mono ?_; rintro e w' ⟨rfl, rfl⟩) | (go_at_call 56; refine (HV.out _).mono ?_; rintro e w' ⟨rfl, rfl⟩))
    go_ret2
    exact ⟨rfl, below2 w _ _⟩
  | true =>
  have hv' := inB_true.1 hv
  rw [hv] at HV HFB
  clear hv
  by_cases hz : e4 = 0
  · subst hz
    rw [addM_fault (c := 2) ((HFB.out.trans (if_neg (by decide))).trans (if_pos (Or.inr (Or.inl rfl)))) (by decide)]
    clear HFB
    go_enter Try.func58, Try.ntmps58
    go_wp2_with (first | (go_at_call 63; refine (HD.out _).mono ?_; rintro e w' ⟨rfl, rfl⟩) | (go_at_call 56; refine (HV.out _).mono ?_; rintro e w' ⟨rfl, rfl⟩))
    go_ret2
    exact ⟨rfl, below2 w _ _⟩
  have hz1' : (e4 == 0) = false := by rw [beq_eq_false_iff_ne]; exact hz
  have hpos : 0 < e4 := by omega
  by_cases hr0 : e5 < 0
  · rw [addM_fault (c := 2) ((HFB.out.trans (if_neg (by decide))).trans (if_pos (Or.inr (Or.inr (Or.inl hr0))))) (by decide)]
    clear HFB hz
    go_enter Try.func58, Try.ntmps58
    go_wp2_with (first | (go_at_call 63; refine (HD.out _).mono ?_; rintro e w' ⟨rfl, rfl⟩) | (go_at_call 56; refine (HV.out _).mono ?_; rintro e w' ⟨rfl, rfl⟩))
    go_ret2
    exact ⟨rfl, below2 w _ _⟩
  by_cases hr1 : 1000000 < e5
  · rw [addM_fault (c := 2) ((HFB.out.trans (if_neg (by decide))).trans (if_pos (Or.inr (Or.inr (Or.inr hr1))))) (by decide)]
    clear HFB hz
    go_enter Try.func58, Try.ntmps58
    go_wp2_with (first | (go_at_call 63; refine (HD.out _).mono ?_; rintro e w' ⟨rfl, rfl⟩) | (go_at_call 56; refine (HV.out _).mono ?_; rintro e w' ⟨rfl, rfl⟩))
    go_ret2
    exact ⟨rfl, below2 w _ _⟩
  --REST
  have HW0 := Lib.hid (below2 w (.cells #[.int .i64 l0, .int .i64 l1, .int .i64 l2, .int .i64 l3, .int .i64 l4, .int .i64 l5] 86) (.cells #[.int .i64 (l0 + 1), .int .i64 e1, .int .i64 e2, .int .i64 e3, .int .i64 e4, .int .i64 e5] 86))
  have HX0 := Lib.hid (alloc2_at w (.cells #[.int .i64 l0, .int .i64 l1, .int .i64 l2, .int .i64 l3, .int .i64 l4, .int .i64 l5] 86) (.cells #[.int .i64 (l0 + 1), .int .i64 e1, .int .i64 e2, .int .i64 e3, .int .i64 e4, .int .i64 e5] 86))
  have HFC : Hid (faultE l ⟨l0, l1, l2, l3, l4, l5⟩ ⟨l0 + 1, e1, e2, e3, e4, e5⟩ = if e2 = e3 ∨ (e2 ≠ 0 ∧ atS l e2 = none) ∨ (e3 ≠ 0 ∧ atS l e3 = none) then 60 else 0) := Lib.hid ((HFB.out.trans (if_neg (by decide))).trans (if_neg (by rintro (h | h | h | h) <;> first | contradiction | omega)))
  have hpos' : 1 ≤ e4 := by omega
  clear HFB hz
  by_cases hS : e2 = e3
  · subst hS
    have hS1 : (e2 == e2) = true := by simp
    rw [addM_fault (c := 60) (HFC.out.trans (if_pos (Or.inl rfl))) (by decide)]
    clear HFC
    go_enter Try.func58, Try.ntmps58
    go_wp2_with (first | (go_at_call 63; refine (HD.out _).mono ?_; rintro e w' ⟨rfl, rfl⟩) | (go_at_call 56; refine (HV.out _).mono ?_; rintro e w' ⟨rfl, rfl⟩))
    go_ret2
    exact ⟨rfl, HW0.out⟩
  have hS1 : (e2 == e3) = false := by rw [beq_eq_false_iff_ne]; exact hS
  obtain ⟨a2, ha2⟩ : ∃ a2, a2 = atI l e2 := ⟨_, rfl⟩
  obtain ⟨a3, ha3⟩ : ∃ a3, a3 = atI l e3 := ⟨_, rfl⟩
  have HA2 : Hid (∀ W, Below w.heap.size w W → Calls Try.prog 70 #[sv, .int .i64 e2] W fun e w' => e = .returned (.int .i64 a2) ∧ Below W.heap.size W w') := Lib.hid fun W hW => by rw [ha2]; exact HAT.out e2 W hW
  have HA3 : Hid (∀ W, Below w.heap.size w W → Calls Try.prog 70 #[sv, .int .i64 e3] W fun e w' => e = .returned (.int .i64 a3) ∧ Below W.heap.size W w') := Lib.hid fun W hW => by rw [ha3]; exact HAT.out e3 W hW
  have HQ2 : Hid ((atS l e2 = none ∧ a2 = -1) ∨ ∃ i, atS l e2 = some i ∧ a2 = ((i : Nat) : Int)) := Lib.hid (by rw [ha2]; exact atI_ways l e2)
  have HQ3 : Hid ((atS l e3 = none ∧ a3 = -1) ∨ ∃ i, atS l e3 = some i ∧ a3 = ((i : Nat) : Int)) := Lib.hid (by rw [ha3]; exact atI_ways l e3)
  clear ha2 ha3 HAT
  by_cases hF2 : e2 ≠ 0 ∧ atS l e2 = none
  · obtain ⟨hn2, hq2⟩ := hF2
    obtain rfl : a2 = -1 := by
      rcases HQ2.out with h | ⟨i, h, _⟩
      · exact h.2
      · rw [hq2] at h; cases h
    have hn2' : (e2 == 0) = false := by rw [beq_eq_false_iff_ne]; exact hn2
    have hn2'' : (e2 != 0) = true := by rw [bne, hn2']; rfl
    rw [addM_fault (c := 60) (HFC.out.trans (if_pos (Or.inr (Or.inl ⟨hn2, hq2⟩)))) (by decide)]
    clear HFC hq2 hn2 hS
    go_enter Try.func58, Try.ntmps58
    go_wp2_with (first | (go_at_call 63; refine (HD.out _).mono ?_; rintro e w' ⟨rfl, rfl⟩) | (go_at_call 56; refine (HV.out _).mono ?_; rintro e w' ⟨rfl, rfl⟩))
    refine (HA2.out _ HW0.out).mono ?_
    rintro e w1 ⟨rfl, hb1⟩
    have HB1 := Lib.hid (HW0.out.trans (hb1.mono HW0.out.size))
    clear hb1
    go_wp2
    go_ret2
    exact ⟨rfl, HB1.out⟩
  by_cases hF3 : e3 ≠ 0 ∧ atS l e3 = none
  · obtain ⟨hn3, hq3⟩ := hF3
    obtain rfl : a3 = -1 := by
      rcases HQ3.out with h | ⟨i, h, _⟩
      · exact h.2
      · rw [hq3] at h; cases h
    have hn3' : (e3 == 0) = false := by rw [beq_eq_false_iff_ne]; exact hn3
    have hn3'' : (e3 != 0) = true := by rw [bne, hn3']; rfl
    rw [addM_fault (c := 60) (HFC.out.trans (if_pos (Or.inr (Or.inr ⟨hn3, hq3⟩)))) (by decide)]
    clear HFC hq3 hn3 hS
    by_cases h20 : e2 = 0
    · have h20' : (e2 == 0) = true := by rw [beq_iff_eq]; exact h20
      have h20'' : (e2 != 0) = false := by rw [bne, h20']; rfl
      clear h20 hF2
      go_enter Try.func58, Try.ntmps58
      go_wp2_with (first | (go_at_call 63; refine (HD.out _).mono ?_; rintro e w' ⟨rfl, rfl⟩) | (go_at_call 56; refine (HV.out _).mono ?_; rintro e w' ⟨rfl, rfl⟩))
      refine (HA3.out _ HW0.out).mono ?_
      rintro e w1 ⟨rfl, hb1⟩
      have HB1 := Lib.hid (HW0.out.trans (hb1.mono HW0.out.size))
      clear hb1
      go_wp2
      go_ret2
      exact ⟨rfl, HB1.out⟩
    · have h20' : (e2 == 0) = false := by rw [beq_eq_false_iff_ne]; exact h20
      have h20'' : (e2 != 0) = true := by rw [bne, h20']; rfl
      obtain ⟨i, rfl⟩ : ∃ i : Nat, a2 = i := by
        rcases HQ2.out with h | ⟨i, _, h⟩
        · exact absurd ⟨h20, h.1⟩ hF2
        · exact ⟨i, h⟩
      clear h20 hF2
      go_enter Try.func58, Try.ntmps58
      go_wp2_with (first | (go_at_call 63; refine (HD.out _).mono ?_; rintro e w' ⟨rfl, rfl⟩) | (go_at_call 56; refine (HV.out _).mono ?_; rintro e w' ⟨rfl, rfl⟩))
      refine (HA2.out _ HW0.out).mono ?_
      rintro e w1 ⟨rfl, hb1⟩
      have HB1 := Lib.hid (HW0.out.trans (hb1.mono HW0.out.size))
      have hx1 := obj_below HX0.out hb1
      have u2 := obj_cell hx1 2
      have u3 := obj_cell hx1 3
      simp at u2 u3
      clear hb1 hx1
      go_wp2_with fail
      refine (HA3.out _ HB1.out).mono ?_
      rintro e w2 ⟨rfl, hb2⟩
      have HB2 := Lib.hid (HB1.out.trans (hb2.mono HB1.out.size))
      clear hb2
      go_wp2
      go_ret2
      exact ⟨rfl, HB2.out⟩
  have hf0 : faultE l ⟨l0, l1, l2, l3, l4, l5⟩ ⟨l0 + 1, e1, e2, e3, e4, e5⟩ = 0 := HFC.out.trans (if_neg (by
    rintro (h | h | h)
    · exact hS h
    · exact hF2 h
    · exact hF3 h))
  exact absurd hf0 hbad
  --TSER

end Go.Proofs.Ytoelidndnajedab
