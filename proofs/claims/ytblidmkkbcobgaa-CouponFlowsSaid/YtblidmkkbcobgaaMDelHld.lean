/- slices.Delete of one element of a row of the call's own (elements of 3 cells). -/
import Derived.Test.YtblidmkkbcobgaaMInsHld
import Derived.Maps.AppendAt
import Derived.Deep.Upon
set_option linter.unusedSimpArgs false
set_option linter.unusedVariables false
set_option linter.unusedSimpArgs false
set_option linter.unusedVariables false
namespace Go.Proofs.Ytblidmkkbcobgaa
open Go.RowKit Go.Lib Go.Proofs

theorem step_append_runI {P : Program} {ops : Array Oper} {o : Oper} {a : Act} {w : World} {K : Act → World → Prop} {Q : Exit → Act → World → Prop} {E : Prop}
    (hg : o.guard = none) (d x : Operand) (dT sT : TypeId) (hop : o.op = Op.call { callee := Callee.builtin Builtin.append, args := #[d, x], argTypes := #[dT, sT] })
    (v u : Value) (hd : a.eval d = v) (hx : a.eval x = u) {v' : Value} {w' : World} (hr : (Builtin.append_ #[dT, sT] o.type #[v, u]).run P w = .ok v' w') (hK : K (a.put o.dst v') w') :
    if Region.wanted o (yielded ops a.tmps) = true then Oper.wp P o a w K Q else E := by
  have hw : Region.wanted o (yielded ops a.tmps) = true := by simp [Region.wanted, hg]
  rw [if_pos hw]
  unfold Oper.wp
  simp [execOp, hop, resolve, invoke, builtin, hd, hx, hr, Result.andThen]
  exact hK
theorem wpList_clearT {P : Program} {w : World} {ops : Array Oper} {rest : List Oper} {o : Oper} {a : Act} {Q : Exit → Act → World → Prop} (hgd : o.guard = none) (d : Operand) (t : TypeId)
    (ho : o.op = .call { callee := .builtin .clear, args := #[d], argTypes := #[t] }) (v' : Value) (w' : World)
    (hr : (Builtin.clear_ #[t] o.type #[a.eval d]).run P w = .ok v' w') (h : wpList P ops Q rest (a.put o.dst v') w') : wpList P ops Q (o :: rest) a w :=
  wpList_plain hgd fun _ hK => by
    unfold Oper.wp execOp
    simp only [ho, resolve, invoke, builtin, Sem.run_bind, Sem.run_pure, Result.andThen_ok, List.map_toArray, List.map_cons, List.map_nil, hr]
    exact hK _ _ h
/-- The elements ahead of a place. -/
theorem owns_take {α : Type} {f : α → List Value} {k : Nat} (hf : Fields f k) {w : World} {base : Nat} {e : TypeId} {g n cap i : Nat} {l : List α} (h : w.ownsRow base e k (.slice (some ⟨g, 0, none⟩) n cap) n (cellsL f l)) (hl : l.length = n) (hi : i ≤ n) :
    w.ownsRow base e k (.slice (some ⟨g, 0, none⟩) i cap) i (cellsL f (l.take i)) := by
  rcases h.2 with ⟨h1, _⟩ | ⟨g2, c2, cur, h1, h2, h3, h4, h5, h6, h7⟩
  · simp at h1
  · simp only [Value.slice.injEq, Option.some.injEq, Addr.mk.injEq, and_true, true_and] at h1
    obtain ⟨rfl, rfl⟩ := h1
    refine ⟨?_, Or.inr ⟨g, cap, cur, rfl, h2, h3, Nat.le_trans hi h4, h5, h6, ?_⟩⟩
    · rw [cellsL_len hf, List.length_take]; congr 1; omega
    · rw [cellsL_take hf, ← h7, List.take_take]
      congr 1
      exact (Nat.min_eq_left (Nat.mul_le_mul_right k hi)).symm

set_option maxHeartbeats 4000000 in
set_option maxRecDepth 100000 in
theorem delHld_any (base g cap i : Nat) (l : List Hld) (w : World) (hl : l.length ≤ 1000) (hi : i < l.length) (hown : w.ownsRow base 53 3 (.slice (some ⟨g, 0, none⟩) l.length cap) l.length (cellsL hldC l)) :
    Calls Try.prog 145 #[.slice (some ⟨g, 0, none⟩) l.length cap, .int .i64 i, .int .i64 ((i : Int) + 1)] w fun e w' => ∃ v', e = .returned v' ∧ RowTo base 53 3 w (.slice (some ⟨g, 0, none⟩) l.length cap) w' v' (l.length - 1) (cellsL hldC (l.take i ++ l.drop (i + 1))) := by
  obtain ⟨n, hn⟩ : ∃ n, n = l.length := ⟨_, rfl⟩
  have hcap : n ≤ cap ∧ cap ≤ maxLen := by
    rcases hown.2 with ⟨h1, _⟩ | ⟨g2, c2, cur, h1, h2, h3, h4, h5, h6, h7⟩
    · simp at h1
    · simp only [Value.slice.injEq, Option.some.injEq, Addr.mk.injEq, and_true, true_and] at h1
      obtain ⟨rfl, rfl⟩ := h1
      rw [hn]
      exact ⟨h4, h5⟩
  obtain ⟨if0, hi0, hz0, hsz0, hby0⟩ := info_parts infoIHld
  rw [← hn] at hl hi hown ⊢
  have hT := owns_take (i := i) hldF hown hn.symm (Nat.le_of_lt hi)
  have hlen2 : (l.drop (i + 1)).length = n - (i + 1) := by rw [List.length_drop, hn]
  have hns : ∀ j u, (cellsL hldC (l.drop (i + 1)))[j]? = some u → w.drew.cell? ((⟨g, (i + 1) * 3, none⟩ : Addr).add j) = some u := fun j u hj => by
    rw [cellsL_drop hldF, List.getElem?_drop] at hj
    have h := hown.cells (g := g) rfl ((i + 1) * 3 + j) u hj
    rw [Addr.add_lit] at h ⊢
    rw [Nat.zero_add] at h
    exact h
  obtain ⟨W, happ, hWo, hWg⟩ : ∃ W, (∀ ty ao c, (n - (i + 1) = 0 ∨ ao = some ⟨g, (i + 1) * 3, none⟩) → (Builtin.append_ #[26, 26] ty #[.slice (some ⟨g, 0, none⟩) i cap, .slice ao (n - (i + 1)) c]).run Try.prog w.drew = .ok (.slice (some ⟨g, 0, none⟩) (n - 1) cap) W) ∧ W.ownsRow base 53 3 (.slice (some ⟨g, 0, none⟩) (n - 1) cap) (n - 1) (cellsL hldC (l.take i ++ l.drop (i + 1))) ∧ w.grownBy W (some g) := by
    rcases hT.2 with ⟨h1, _⟩ | ⟨g2, c2, cur, h1, h2, h3, h4, h5, h6, h7⟩
    · simp at h1
    simp only [Value.slice.injEq, Option.some.injEq, Addr.mk.injEq, and_true, true_and] at h1
    obtain ⟨rfl, rfl⟩ := h1
    by_cases hm : n - (i + 1) = 0
    · refine ⟨w.drew, fun ty ao c _ => ?_, ?_, ⟨rfl, rfl, rfl, Nat.le_refl _, fun _ _ _ => rfl⟩⟩
      · rw [hm, show n - 1 = i by omega]
        exact run_append_nothing (P := Try.prog) w.drew 26 26 ty 53 if0 undIHld hi0 (some ⟨g, 0, none⟩) i cap (by omega) _ (by
          cases ao with
          | none => exact Src.ofNil w.drew undIHld c
          | some a => exact Src.ofSlice w.drew undIHld a 0 c [] (by simp) (by simp) (by simp))
      · rw [show l.drop (i + 1) = [] from List.length_eq_zero_iff.1 (by omega), List.append_nil, show n - 1 = i by omega]
        exact hT
    · have hcl : (cellsL hldC (l.drop (i + 1))).length = (n - (i + 1)) * if0.size := by rw [cellsL_len hldF, hlen2, hsz0]
      have hfit : i * if0.size + (cellsL hldC (l.drop (i + 1))).length ≤ cur.size := by
        rw [hcl, h6, hsz0]; omega
      have hr := fun ty c => run_append_room (P := Try.prog) w.drew 26 ty 53 if0 undIHld hi0 g i cap cur h3 ⟨g, (i + 1) * 3, none⟩ (n - (i + 1)) c (cellsL hldC (l.drop (i + 1))) hcl hns (cellsL_one hldF _) (by omega) hfit
      rw [show i + (n - (i + 1)) = n - 1 by omega] at hr
      refine ⟨w.drew.setRow g _, fun ty ao c h => by rw [h.resolve_left hm]; exact hr ty c, ⟨?_, Or.inr ⟨g, cap, _, rfl, h2, setRow_heap _ g cur _ _ _ h3, by omega, h5, ?_, ?_⟩⟩, ⟨rfl, rfl, rfl, by simp, fun k _ hk => setRow_other _ g k _ (fun e => hk (by simp [e]))⟩⟩
      · rw [cellsL_len hldF, List.length_append, List.length_take, hlen2]; congr 1; omega
      · simp only [List.size_toArray, List.length_append, List.length_take, List.length_drop, Array.length_toList]
        omega
      · rw [hsz0, h7, cellsL_app]
        have hL : (cellsL hldC (l.take i) ++ cellsL hldC (l.drop (i + 1))).length = (n - 1) * 3 := by
          rw [← cellsL_app, cellsL_len hldF, List.length_append, List.length_take, hlen2]; congr 1; omega
        rw [← hL]
        exact List.take_left
  obtain ⟨cur2, hbg, hg2, hcs2, htk2⟩ : ∃ cur2, base ≤ g ∧ W.heap[g]? = some (.cells cur2 53 (0, 0)) ∧ cur2.size = cap * 3 ∧ cur2.toList.take ((n - 1) * 3) = cellsL hldC (l.take i ++ l.drop (i + 1)) := by
    rcases hWo.2 with ⟨h1, _⟩ | ⟨g2, c2, cur, h1, h2, h3, h4, h5, h6, h7⟩
    · simp at h1
    · simp only [Value.slice.injEq, Option.some.injEq, Addr.mk.injEq, and_true, true_and] at h1
      obtain ⟨rfl, rfl⟩ := h1
      exact ⟨cur, h2, h3, h6, h7⟩
  obtain ⟨Z, hZ⟩ : ∃ Z : List Value, Z = [.int .i64 0, .int .i64 0, .int .i64 0] := ⟨_, rfl⟩
  have hZl : Z.length = 3 := by rw [hZ]; rfl
  obtain ⟨c3, hc3⟩ : ∃ c3, c3 = cur2.toList.take ((n - 1) * 3) ++ Z ++ cur2.toList.drop ((n - 1) * 3 + Z.length) := ⟨_, rfl⟩
  have hclr : ∀ ty c, (Builtin.clear_ #[26] ty #[.slice (some ⟨g, (n - 1) * 3, none⟩) 1 c]).run Try.prog W = .ok (.tuple #[]) (W.setRow g c3.toArray) := fun ty c => by
    have hst := run_storeCells_at (P := Try.prog) g ((n - 1) * 3) 53 Z 0 cur2 W hg2 (by rw [hZl, hcs2]; omega) (by rw [hZ]; intro v hv; simp only [List.mem_cons, List.mem_nil_iff, or_false] at hv; rcases hv with rfl | rfl | rfl <;> rfl)
    rw [Nat.add_zero, ← hc3] at hst
    have hzc : (Builtin.zeroCells (Value.agg #[.int .i64 0, .int .i64 0, .int .i64 0]).cells 1).toList = Z := by rw [hZ]; first | kernel_rfl | simp [Builtin.zeroCells, Value.cells] | decide
    simp [Builtin.clear_, run_underlying undIHld, zeroValue, typeInfo, hi0, hz0, hzc, hst]
  have hR : RowTo base 53 3 w (.slice (some ⟨g, 0, none⟩) n cap) (W.setRow g c3.toArray) (.slice (some ⟨g, 0, none⟩) (n - 1) cap) (n - 1) (cellsL hldC (l.take i ++ l.drop (i + 1))) := by
    refine ⟨owns_setRow hg2 hbg (by omega) hcap.2 ?_ ?_, grown_step hWg (grown_setRow W g _), Or.inl rfl⟩
    · rw [hc3, List.length_append, List.length_append, List.length_take, List.length_drop, Array.length_toList, hcs2, hZl]; omega
    · rw [hc3, List.append_assoc, ← htk2]
      have h : (cur2.toList.take ((n - 1) * 3)).length = (n - 1) * 3 := by rw [List.length_take, Array.length_toList, hcs2]; omega
      exact List.take_left' h
  obtain ⟨hc1, hc2⟩ := hcap
  unfold maxLen at hc2
  have hw1 : IntKind.i64.wrap ((i : Int) + 1) = (i : Int) + 1 := by rw [IntKind.wrap_i64]; omega
  have hb1 : (0 : Int) ≤ (i : Int) + 1 := by omega
  have hin : i ≤ n := by omega
  have htn : ((i : Int) + 1).toNat = i + 1 := by omega
  have hb3 : (i : Int) + 1 ≤ (n : Int) := by omega
  have hb4 : ¬ (cap = i) := by omega
  have hb5 : ¬ ((i : Int) = (i : Int) + 1) := by omega
  have hb6 : (n : Int) ≤ (cap : Int) := by omega
  have hb7 : ((n - 1 : Nat) : Int) ≤ (n : Int) := by omega
  have hb8 : n - (n - 1) = 1 := by omega
  have hb9 : ¬ (cap = n - 1) := by omega
  have hHR := hid hR
  have hHA := hid happ
  have hb13 : (i : Int) ≤ (cap : Int) := by omega
  clear hn hR happ hc3 hcs2 htk2 hg2 hZ hZl hWo hWg hT hns hi0 hz0 hsz0 hby0 hown hlen2
  by_cases hb2 : cap = i + 1
  · have hn1 : n = i + 1 := by omega
    subst hn1
    subst hb2
    have hA1 : ∀ ty, (Builtin.append_ #[26, 26] ty #[.slice (some ⟨g, 0, none⟩) i (i + 1), .slice (some ⟨g, 0, none⟩) 0 0]).run Try.prog w.drew = .ok (.slice (some ⟨g, 0, none⟩) i (i + 1)) W := fun ty => by
      have h := hHA.out ty (some ⟨g, 0, none⟩) 0 (Or.inl (by omega))
      simp only [Nat.sub_self, Nat.add_sub_cancel] at h
      exact h
    have hC1 : ∀ ty c, (Builtin.clear_ #[26] ty #[.slice (some ⟨g, i * 3, none⟩) 1 c]).run Try.prog W = .ok (.tuple #[]) (W.setRow g c3.toArray) := fun ty c => by
      have h := hclr ty c
      simp only [Nat.add_sub_cancel] at h
      exact h
    simp only [Nat.add_sub_cancel] at hHR
    rw [Nat.add_sub_cancel]
    clear hclr hHA hb3 hb4 hb6 hb7 hb8 hb9 hb13
    have hb12 : (i : Int) ≤ (i : Int) + 1 := by omega
    have hb14 : ¬ ((i : Int) + 1 ≤ (i : Int)) := by omega
    have hb15 : i ≤ i + 1 := by omega
    go_enter Try.func145, Try.ntmps145
    go_wp2
    go_region_law (refine step_append_runI rfl _ _ 26 26 rfl (.slice (some ⟨g, 0, none⟩) i (i + 1)) (.slice (some ⟨g, 0, none⟩) 0 0) (by simp [Act.eval, Act.put]) (by simp [Act.eval, Act.put]) (hA1 _) ?_)
    go_wp2_with ((with_reducible refine wpList_clearT (by rfl) (.tmp 31) 26 (by rfl) (.tuple #[]) (W.setRow g c3.toArray) ?_ ?_); · exact hC1 _ _)
    go_ret
    exact ⟨_, rfl, hHR.out⟩
  · go_enter Try.func145, Try.ntmps145
    go_wp2
    go_region_law (refine step_append_runI rfl _ _ 26 26 rfl (.slice (some ⟨g, 0, none⟩) i cap) (.slice (some ⟨g, (i + 1) * 3, none⟩) (n - (i + 1)) (cap - (i + 1))) (by simp [Act.eval, Act.put]) (by simp [Act.eval, Act.put]) (hHA.out _ _ _ (Or.inr rfl)) ?_)
    go_wp2_with ((with_reducible refine wpList_clearT (by rfl) (.tmp 31) 26 (by rfl) (.tuple #[]) (W.setRow g c3.toArray) ?_ ?_); · exact hclr _ _)
    go_ret
    exact ⟨_, rfl, hHR.out⟩

end Go.Proofs.Ytblidmkkbcobgaa

