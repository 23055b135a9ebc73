/- Contracts of the account's own ids, empty and validIDs. -/
import Derived.Test.YtoelidndnajedabMAcE
import Derived.Test.YtoelidndnajedabMG7
import Derived.Test.YtoelidndnajedabMAcA
import Derived.Test.YtoelidndnajedabMG1
set_option linter.unusedSimpArgs false
set_option linter.unusedVariables false
set_option linter.unusedSimpArgs false
set_option linter.unusedVariables false
namespace Go.Proofs.Ytoelidndnajedab
open Go.RowKit Go.Lib Go.Proofs

def idsL (l : List SubA) : List Int := l.map SubA.id
theorem idsL_len (l : List SubA) : (idsL l).length = l.length := by simp [idsL]
theorem idsL_take_snoc {l : List SubA} {k : Nat} (hk : k < l.length) : cellsI (idsL (l.take (k + 1))) = cellsI (idsL (l.take k)) ++ [.int .i64 (subAt l k).id] := by
  rw [List.take_succ_eq_append_getElem hk, subAt_get hk]
  unfold idsL cellsI
  rw [List.map_append, List.map_append]
  rfl

set_option maxRecDepth 100000 in
set_option maxHeartbeats 2000000 in
theorem acids_any (cr : Int) (su en : Value) (l : List SubA) (w : World) (h : SubsAt w su l) (hlen : l.length ≤ 1000000) :
    Calls Try.prog 72 #[.agg #[.int .i64 cr, su, en]] w fun e w' => ∃ v, e = .returned v ∧ w'.ownsRow w.heap.size 3 1 v l.length (cellsI (idsL l)) ∧ Below w.heap.size w w' := by
  obtain ⟨i0, hi0, hz0, hz1, hz2⟩ := info_parts Try.infoInt
  obtain ⟨n, hn⟩ : ∃ n, n = l.length := ⟨_, rfl⟩
  have HN := Lib.hid hn
  have hnil : w.ownsRow w.heap.size 3 1 (.slice none 0 0) 0 (cellsI (idsL (l.take 0))) := World.ownsRow_nil _ _ _ _
  have HNIL := Lib.hid hnil
  clear hnil
  rcases h.open with ⟨rfl, ao, cap, rfl⟩ | ⟨hpos, b, o, cap, rfl, hcap, hb, hc⟩
  · clear hn h hlen HN
    go_enter Try.func72, Try.ntmps72
    go_wp2
    go_loopw [3, 9] (fun u i wr => u = .slice none 0 0 ∧ i = .int .i64 0 ∧ wr = w.alloc (.cells #[.int .i64 cr, .slice ao 0 cap, en] 56)) (fun _ _ _ => 0)
    case atStart => exact ⟨rfl, rfl, rfl⟩
    case round =>
      obtain ⟨rfl, rfl, rfl⟩ := hrel
      go_wp2
      go_ret
      exact ⟨_, rfl, World.ownsRow_nil _ _ _ _, below_alloc w _⟩
  · have HC := Lib.hid hc
    rw [← hn] at hpos hcap hlen ⊢
    clear hn hc h
    go_enter Try.func72, Try.ntmps72
    go_wp2
    go_loopw [3, 9] (fun u i wr => ∃ k : Nat, i = .int .i64 k ∧ k ≤ n ∧ Hid (wr.ownsRow w.heap.size 3 1 u k (cellsI (idsL (l.take k)))) ∧ Hid (Below w.heap.size w wr)) (fun _ i _ => n - (RowKit.intOf i).toNat)
    case atStart => exact ⟨0, rfl, by omega, Lib.hid (HNIL.out.alloc _), Lib.hid (below_alloc w _)⟩
    case round =>
      obtain ⟨k, rfl, hkn, HO, HB⟩ := hrel
      by_cases hlt : k < n
      · have hkl : k < l.length := by rw [← HN.out]; exact hlt
        have c0 : wr.cell? ⟨b, o + k * 2, none⟩ = some (.int .i64 (subAt l k).id) := (HB.out.cell (p := ⟨b, o + k * 2, none⟩) hb).trans (HC.out k hkl).1
        have c1 : wr.cell? ⟨b, o + k * 2 + 1, none⟩ = some (.int .i64 (subAt l k).bal) := (HB.out.cell (p := ⟨b, o + k * 2 + 1, none⟩) hb).trans (HC.out k hkl).2
        have hk0 : (0 : Int) ≤ (k : Int) := by omega
        have hk1 : (k : Int) < (n : Int) := by omega
        have HST := Lib.hid (idsL_take_snoc hkl)
        generalize (subAt l k).id = x at *
        generalize (subAt l k).bal = y at *
        have HO2 : Hid ((wr.alloc (.cells #[.int .i64 x, .int .i64 y] 62)).ownsRow w.heap.size 3 1 u3 k (cellsI (idsL (l.take k)))) := Lib.hid (HO.out.alloc _)
        have HB2 := Lib.hid (HB.out.alloc HB.out.size (.cells #[.int .i64 x, .int .i64 y] 62))
        go_wp2_with (at_builtin; refine wpList_append_own _ rfl _ _ 22 rfl w.heap.size 3 i0 (.int .i64 0) 1 8 Try.underlying22 hi0 hz0 hz1 hz2 rfl (by decide) _ _ _ rfl (HO2.out.alloc _) ⟨wr.heap.size + 1, 0, none⟩ 1 1 [.int .i64 x] rfl rfl (one_new _ _ _ _ (by simp)) (one_int _ _) (by unfold maxLen; omega) (by omega) (by have := HB2.out.size; simp at this ⊢; omega) ?_; intro v' w5 hown5 hgr5 _)
        have hB5 : Below w.heap.size w w5 := (HB2.out.alloc HB2.out.size _).grown hgr5 (by have := HB2.out.size; simp at this ⊢; omega) fun j e => ownBlock_le HO.out j e
        have HO5 := Lib.hid hown5
        have HB5 := Lib.hid hB5
        clear hown5 hB5 hgr5
        go_roundw
        case rel => exact ⟨k + 1, by go_num, by omega, Lib.hid (by rw [HST.out]; exact HO5.out), HB5⟩
        case measure => simp [RowKit.intOf]; omega
      · obtain rfl : k = n := by omega
        go_wp2
        go_ret
        refine ⟨_, rfl, ?_, HB.out⟩
        have := HO.out
        rw [HN.out, List.take_length] at this
        rw [HN.out]
        exact this

theorem zerosV_take_snoc {l : List Int} {k : Nat} (hk : k < l.length) : cellsU (zerosV (l.take (k + 1))) = cellsU (zerosV (l.take k)) ++ [.int .i64 (l.getD k 0), .int .i64 0] := by
  rw [List.take_succ_eq_append_getElem hk]
  unfold zerosV
  rw [List.map_append, cellsU_app]
  simp [cellsU, List.getD, List.getElem?_eq_getElem hk]
theorem zerosV_len (l : List Int) : (zerosV l).length = l.length := by simp [zerosV]

set_option maxRecDepth 100000 in
set_option maxHeartbeats 2000000 in
theorem acempty_any (v : Value) (l : List Int) (w : World) (h : NumsAt w v l) (hlen : l.length ≤ 1000000) :
    Calls Try.prog 73 #[v] w fun e w' => ∃ v, e = .returned v ∧ w'.ownsRow w.heap.size 62 2 v l.length (cellsU (zerosV l)) ∧ Below w.heap.size w w' := by
  obtain ⟨i0, hi, hz0, hz1, hz2⟩ := infoU_parts
  obtain ⟨n, hn⟩ : ∃ n, n = l.length := ⟨_, rfl⟩
  have HN := Lib.hid hn
  have hnil : w.ownsRow w.heap.size 62 2 (.slice none 0 0) 0 (cellsU (zerosV (l.take 0))) := World.ownsRow_nil _ _ _ _
  have HNIL := Lib.hid hnil
  clear hnil
  obtain ⟨ao, cap, rfl, hcap, hcs⟩ := h.shape
  have HCS := Lib.hid hcs
  rw [← hn] at hcap hlen ⊢
  clear hn hcs h
  go_enter Try.func73, Try.ntmps73
  go_wp2
  go_loopw [3, 8] (fun u i wr => ∃ k : Nat, i = .int .i64 k ∧ k ≤ n ∧ Hid (wr.ownsRow w.heap.size 62 2 u k (cellsU (zerosV (l.take k)))) ∧ Hid (Below w.heap.size w wr)) (fun _ i _ => n - (RowKit.intOf i).toNat)
  case atStart => exact ⟨0, rfl, by omega, Lib.hid (HNIL.out), Lib.hid (Below.refl _ _)⟩
  case round =>
    obtain ⟨k, rfl, hkn, HO, HB⟩ := hrel
    by_cases hlt : k < n
    · have hkl : k < l.length := by rw [← HN.out]; exact hlt
      obtain ⟨b, o, rfl, hb, hc⟩ := HCS.out (by omega)
      have c0 : wr.cell? ⟨b, o + k, none⟩ = some (.int .i64 (l.getD k 0)) := (HB.out.cell (p := ⟨b, o + k, none⟩) hb).trans (hc k hkl)
      have hk0 : (0 : Int) ≤ (k : Int) := by omega
      have hk1 : (k : Int) < (n : Int) := by omega
      have HST := Lib.hid (zerosV_take_snoc hkl)
      generalize l.getD k 0 = x at *
      clear hc
      go_wp2_with (at_builtin; refine wpList_append_own _ rfl _ _ 53 rfl w.heap.size 62 i0 (.agg #[.int .i64 0, .int .i64 0]) 2 16 Try.underlying53 hi hz0 hz1 hz2 rfl (by decide) _ _ _ rfl (HO.out.alloc _) ⟨wr.heap.size, 0, none⟩ 1 1 [.int .i64 x, .int .i64 0] rfl rfl (sub_new _ _ _ _ _ rfl) (sub_one _ _) (by unfold maxLen; omega) (by omega) (by have := HB.out.size; simp at this ⊢; omega) ?_; intro v' w5 hown5 hgr5 _)
      have hB5 : Below w.heap.size w w5 := (HB.out.alloc HB.out.size _).grown hgr5 (by have := HB.out.size; simp at this ⊢; omega) fun j e => ownBlock_le HO.out j e
      have HO5 := Lib.hid hown5
      have HB5 := Lib.hid hB5
      clear hown5 hB5 hgr5
      go_roundw
      case rel => exact ⟨k + 1, by go_num, by omega, Lib.hid (by rw [HST.out]; exact HO5.out), HB5⟩
      case measure => simp [RowKit.intOf]; omega
    · obtain rfl : k = n := by omega
      go_wp2
      go_ret
      refine ⟨_, rfl, ?_, HB.out⟩
      have := HO.out
      rw [HN.out, List.take_length] at this
      rw [HN.out]
      exact this

theorem idsV_no {l : List Int} {i : Nat} (hi : i < l.length) (h : ¬ okV l i) : idsV l = false := by
  cases hb : idsV l with
  | false => rfl
  | true => exact absurd ((idsV_true.1 hb).1 i hi) h

set_option maxRecDepth 100000 in
set_option maxHeartbeats 4000000 in
theorem acvalid_any (v : Value) (l : List Int) (w : World) (h : NumsAt w v l) (hlen : l.length ≤ 1000000) :
    Calls Try.prog 71 #[v] w fun e w' => e = .returned (.bool (idsV l)) ∧ Below w.heap.size w w' := by
  obtain ⟨p, hp⟩ : ∃ p, p = idsV l := ⟨_, rfl⟩
  have HP := Lib.hid hp
  obtain ⟨n, hn⟩ : ∃ n, n = l.length := ⟨_, rfl⟩
  have HN := Lib.hid hn
  obtain ⟨ao, cap, rfl, hcap, hcs⟩ := h.shape
  have HCS := Lib.hid hcs
  rw [← hn] at hcap hlen ⊢
  rw [← hp]
  clear hn hcs h hp
  go_enter Try.func71, Try.ntmps71
  go_wp2
  go_loopw [7] (fun i wr => ∃ k : Nat, i = .int .i64 k ∧ k ≤ n ∧ Hid (∀ j, j < k → okV l j) ∧ Hid (Below w.heap.size w wr)) (fun i _ => n - (RowKit.intOf i).toNat)
  case atStart => exact ⟨0, rfl, by omega, Lib.hid (fun j hj => by omega), Lib.hid (Below.refl _ _)⟩
  case round =>
    obtain ⟨k, rfl, hkn, HF, HB⟩ := hrel
    by_cases hlt : k < n
    · have hkl : k < l.length := by rw [← HN.out]; exact hlt
      obtain ⟨b, o, rfl, hb, hc⟩ := HCS.out (by omega)
      have c0 : wr.cell? ⟨b, o + k, none⟩ = some (.int .i64 (l.getD k 0)) := (HB.out.cell (p := ⟨b, o + k, none⟩) hb).trans (hc k hkl)
      have hk0 : (0 : Int) ≤ (k : Int) := by omega
      have hk1 : (k : Int) < (n : Int) := by omega
      have HNO : Hid (¬ okV l k → p = false) := Lib.hid fun hno => HP.out.trans (idsV_no hkl hno)
      have HYES : Hid (okV l k → ∀ j, j < k + 1 → okV l j) := Lib.hid fun hy j hj => by
        rcases (by omega : j < k ∨ j = k) with hj | rfl
        · exact HF.out j hj
        · exact hy
      obtain ⟨x, hx⟩ : ∃ x, x = l.getD k 0 := ⟨_, rfl⟩
      have HXE := Lib.hid hx
      rw [← hx] at c0
      clear hx
      by_cases x2 : 1000 < x
      · obtain rfl : p = false := HNO.out fun hok => by have := hok.1; rw [← HXE.out] at this; omega
        clear hc
        go_wp2
        go_ret
        exact ⟨rfl, HB.out⟩
      · cases k with
        | zero =>
          have HF2 : Hid (∀ j, j < 0 + 1 → okV l j) := Lib.hid (HYES.out ⟨by rw [← HXE.out]; omega, fun h => by omega⟩)
          clear hc
          rw [Nat.add_zero] at c0
          go_wp2
          go_roundw
          case rel => exact ⟨0 + 1, by first | rfl | go_num, by omega, HF2, HB⟩
          case measure => simp [RowKit.intOf]; omega
        | succ m =>
          have hml : m < l.length := by omega
          have d0 : wr.cell? ⟨b, o + m, none⟩ = some (.int .i64 (l.getD m 0)) := (HB.out.cell (p := ⟨b, o + m, none⟩) hb).trans (hc m hml)
          obtain ⟨z, hz⟩ : ∃ z, z = l.getD m 0 := ⟨_, rfl⟩
          have HZE := Lib.hid hz
          rw [← hz] at d0
          have hm0 : (0 : Int) ≤ (m : Int) := by omega
          have hm1 : (m : Int) < (n : Int) := by omega
          have hms : ((m + 1 : Nat) : Int) - 1 = (m : Int) := by omega
          clear hz hc
          by_cases x3 : x ≤ z
          · obtain rfl : p = false := HNO.out fun hok => by
              have := hok.2 (by omega)
              rw [← HXE.out, Nat.add_sub_cancel, ← HZE.out] at this
              omega
            go_wp2
            go_ret
            exact ⟨rfl, HB.out⟩
          · have HF2 : Hid (∀ j, j < m + 1 + 1 → okV l j) := Lib.hid (HYES.out ⟨by rw [← HXE.out]; omega, fun _ => by rw [← HXE.out, Nat.add_sub_cancel, ← HZE.out]; omega⟩)
            go_wp2
            go_roundw
            case rel => exact ⟨m + 1 + 1, by first | rfl | go_num, by omega, HF2, HB⟩
            case measure => simp [RowKit.intOf]; omega
    · obtain rfl : k = n := by omega
      have HALL : Hid ((1 ≤ l.length ∧ l.getD 0 0 = 1) ↔ idsV l = true) := Lib.hid ⟨fun h => idsV_true.2 ⟨fun i hi => HF.out i (by rw [HN.out]; exact hi), h⟩, fun h => (idsV_true.1 h).2⟩
      by_cases hpos : 0 < k
      · obtain ⟨b, o, rfl, hb, hc⟩ := HCS.out (by rw [← HN.out]; exact hpos)
        have c0 : wr.cell? ⟨b, o, none⟩ = some (.int .i64 (l.getD 0 0)) := (HB.out.cell (p := ⟨b, o, none⟩) hb).trans (hc 0 (by rw [← HN.out]; exact hpos))
        obtain ⟨x, hx⟩ : ∃ x, x = l.getD 0 0 := ⟨_, rfl⟩
        have HXE := Lib.hid hx
        rw [← hx] at c0
        have hkp : (0 : Int) < (k : Int) := by omega
        clear hx hc
        by_cases hx1 : x = 1
        · obtain rfl : p = true := HP.out.trans (HALL.out.1 ⟨by rw [← HN.out]; omega, by rw [← HXE.out]; exact hx1⟩)
          have h1 : (x == 1) = true := by rw [beq_iff_eq]; exact hx1
          clear hx1
          go_wp2
          go_ret
          exact ⟨rfl, HB.out⟩
        · obtain rfl : p = false := by
            rw [HP.out]
            cases hq : idsV l with
            | false => rfl
            | true => exact absurd (HXE.out.trans (HALL.out.2 hq).2) hx1
          have h1 : (x == 1) = false := by rw [beq_eq_false_iff_ne]; exact hx1
          clear hx1
          go_wp2
          go_ret
          exact ⟨rfl, HB.out⟩
      · obtain rfl : p = false := by
          rw [HP.out]
          cases hq : idsV l with
          | false => rfl
          | true => have := (HALL.out.2 hq).1; rw [← HN.out] at this; omega
        obtain rfl : k = 0 := by omega
        go_wp2
        go_ret
        exact ⟨rfl, HB.out⟩

end Go.Proofs.Ytoelidndnajedab
