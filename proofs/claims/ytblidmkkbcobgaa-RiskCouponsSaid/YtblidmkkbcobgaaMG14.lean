/- Texts of one claim, merged: SfMv, DelMv. -/
import Derived.Test.YtblidmkkbcobgaaMG2
import Derived.Test.YtblidmkkbcobgaaMSfun
import Derived.Test.YtblidmkkbcobgaaMG4
import Derived.Maps.AppendAt
import Derived.Deep.DeepCutAuto
/- slices.IndexFunc and ContainsFunc at Mv, for every predicate that returns; for rows of up to 10^6 elements. -/
set_option linter.unusedSimpArgs false
set_option linter.unusedVariables false
set_option linter.unusedSimpArgs false
set_option linter.unusedVariables false
namespace Go.Proofs.Ytblidmkkbcobgaa
open Go.RowKit Go.Lib Go.Proofs

/-- A predicate that is called with one Mv. -/
def mvPred (f : Nat) (lb : Array Value) (p : Mv → Bool) (xs : List Mv) (Old : World → Prop) : Prop :=
  ∀ x ∈ xs, ∀ W, Old W → Calls Try.prog f (#[.agg (mvC x).toArray] ++ lb) W fun e W' => e = .returned (.bool (p x)) ∧ Below W.heap.size W W'

set_option maxRecDepth 100000 in
set_option maxHeartbeats 4000000 in
theorem mvIndex_any (f : Nat) (lb : Array Value) (eg : ∀ args w, (callFunc f args).run Try.prog w = .ok (.enter f args) w) (p : Mv → Bool) (xs : List Mv) (v : Value) (w : World)
    (hr : ListAt mvC 7 w v xs) (hlen : xs.length ≤ 1000000) (hp : mvPred f lb p xs fun W => Below w.heap.size w W) :
    Calls Try.prog 141 #[v, .func (.func f) #[] lb] w (IndexPost p xs w) := by
  obtain ⟨ao, cap, rfl, hcap, hc⟩ := hr.shape mvF
  obtain ⟨n, hn⟩ : ∃ n, n = xs.length := ⟨_, rfl⟩
  have HN := Lib.hid hn
  have HP := Lib.hid hp
  rw [← hn] at hlen hcap ⊢
  have HC := Lib.hid hc
  clear hp hn hr hc
  go_enter Try.func141, Try.ntmps141
  go_wp2
  go_loopw [8] (fun i wr => ∃ k : Nat, i = .int .i64 k ∧ k ≤ n ∧ Hid (∀ x ∈ xs.take k, p x = false) ∧ Hid (Below w.heap.size w wr)) (fun i _ => n - (RowKit.intOf i).toNat)
  case atStart => exact ⟨0, rfl, by omega, Lib.hid (by simp), Lib.hid (Below.refl _ _)⟩
  case round =>
    obtain ⟨k, rfl, hkn, HF, HB⟩ := hrel
    by_cases hlt : k < n
    · have hlx : k < xs.length := by rw [← HN.out]; exact hlt
      obtain ⟨b, o, rfl, hb, hcc⟩ := HC.out (by omega)
      have hcell := fun j (hj : j < 7) => (HB.out.cell (p := ⟨b, o + k * 7 + j, none⟩) hb).trans (hcc k hlx j hj)
      have hcall := HP.out xs[k] (List.getElem_mem hlx) wr HB.out
      obtain ⟨x, hx⟩ : ∃ x, x = xs[k] := ⟨_, rfl⟩
      rw [← hx] at hcell hcall
      have HX := Lib.hid hx
      have hpx : Hid (∃ c, c = p x) := Lib.hid ⟨_, rfl⟩
      obtain ⟨c, hc⟩ := hpx.out
      have HPX := Lib.hid hc
      rw [← hc] at hcall
      clear hx hc hpx hcc
      obtain ⟨y0, y1, y2, y3, y4, y5, y6⟩ := x
      have c0 := hcell 0 (by omega)
      have c1 := hcell 1 (by omega)
      have c2 := hcell 2 (by omega)
      have c3 := hcell 3 (by omega)
      have c4 := hcell 4 (by omega)
      have c5 := hcell 5 (by omega)
      have c6 := hcell 6 (by omega)
      simp [mvC] at c0 c1 c2 c3 c4 c5 c6 hcall
      have HCALL := Lib.hid hcall
      have hk0 : (0 : Int) ≤ (k : Int) := by omega
      have hk1 : (k : Int) < (n : Int) := by omega
      clear hcell hcall HC
      cases c with
      | true =>
        go_wp2_with fail
        with_reducible refine (HCALL.out).mono ?_
        rintro e w1 ⟨rfl, hb1⟩
        go_wp2
        go_ret
        exact ⟨k, rfl, Or.inr ⟨k, rfl, hlx, by rw [← HX.out]; exact HPX.out.symm, HF.out⟩, HB.out.trans (hb1.mono HB.out.size)⟩
      | false =>
        go_wp2_with fail
        with_reducible refine (HCALL.out).mono ?_
        rintro e w1 ⟨rfl, hb1⟩
        go_wp2
        go_roundw
        case rel => exact ⟨k + 1, by first | rfl | go_num, by omega, Lib.hid (take_snoc_pred hlx HF.out (by rw [← HX.out]; exact HPX.out.symm)), Lib.hid (HB.out.trans (hb1.mono HB.out.size))⟩
        case measure => simp [RowKit.intOf]; omega
    · obtain rfl : k = n := by omega
      clear HC
      go_wp2
      go_ret
      exact ⟨-1, rfl, Or.inl ⟨rfl, fun x hx => HF.out x (by rw [HN.out, List.take_length]; exact hx)⟩, HB.out⟩

end Go.Proofs.Ytblidmkkbcobgaa

/- slices.DeleteFunc on a row of moves of the call's own, where what goes stands behind what stays. -/
set_option linter.unusedSimpArgs false
set_option linter.unusedVariables false
namespace Go.Proofs.Ytblidmkkbcobgaa
open Go.RowKit Go.Lib Go.Proofs

theorem wpList_clearMv {P : Program} {w : World} {ops : Array Oper} {rest : List Oper} {o : Oper} {a : Act} {Q : Exit → Act → World → Prop} (hgd : o.guard = none) (d : Operand) (t : TypeId)
    (ho : o.op = .call { callee := .builtin .clear, args := #[d], argTypes := #[t] }) (v' : Value) (w' : World)
    (hr : (Builtin.clear_ #[t] o.type #[a.eval d]).run P w = .ok v' w') (h : wpList P ops Q rest (a.put o.dst v') w') : wpList P ops Q (o :: rest) a w :=
  wpList_plain hgd fun _ hK => by
    unfold Oper.wp execOp
    simp only [ho, resolve, invoke, builtin, Sem.run_bind, Sem.run_pure, Result.andThen_ok, List.map_toArray, List.map_cons, List.map_nil, hr]
    exact hK _ _ h
theorem zero7_one (n : Nat) : ∀ v ∈ (Builtin.zeroCells (Value.agg #[.int .i64 0, .int .i64 0, .int .i64 0, .int .i64 0, .int .i64 0, .int .i64 0, .int .i64 0]).cells n).toList, v.oneCell' = true := by
  intro v hv
  have he : (Value.agg #[.int .i64 0, .int .i64 0, .int .i64 0, .int .i64 0, .int .i64 0, .int .i64 0, .int .i64 0]).cells = #[.int .i64 0, .int .i64 0, .int .i64 0, .int .i64 0, .int .i64 0, .int .i64 0, .int .i64 0] := by kernel_rfl
  rw [he] at hv
  unfold Builtin.zeroCells at hv
  simp only [Array.toList_map, List.mem_map] at hv
  obtain ⟨i, _, rfl⟩ := hv
  have h7 : ∀ j, j < 7 → ((#[.int .i64 0, .int .i64 0, .int .i64 0, .int .i64 0, .int .i64 0, .int .i64 0, .int .i64 0] : Array Value)[j]!) = .int .i64 0 := by
    intro j hj
    match j, hj with
    | 0, _ | 1, _ | 2, _ | 3, _ | 4, _ | 5, _ | 6, _ => rfl
  exact (congrArg Value.oneCell' (h7 (i % 7) (Nat.mod_lt _ (by decide)))).trans rfl
theorem Try.infoDelMv : (Try.prog.info? 104).map (fun i => (i.zero, i.size, i.bytes)) = some (some (.agg #[.int .i64 0, .int .i64 0, .int .i64 0, .int .i64 0, .int .i64 0, .int .i64 0, .int .i64 0]), 7, 56) := by kernel_rfl

set_option maxHeartbeats 4000000 in
set_option maxRecDepth 100000 in
theorem delfMv_any (f : Nat) (lb : Array Value) (eg : ∀ args w, (callFunc f args).run Try.prog w = .ok (.enter f args) w) (p : Mv → Bool) (base : Nat) (v : Value) (l : List Mv) (k : Nat) (w : World) (hl : l.length ≤ 1000) (hk : k ≤ l.length) (hbase : base ≤ w.heap.size)
    (hown : w.ownsRow base 104 7 v l.length (cellsL mvC l)) (h1 : ∀ x ∈ l.take k, p x = false) (h2 : ∀ x ∈ l.drop k, p x = true) (hp : mvPred f lb p l fun W => Below w.heap.size w W) :
    Calls Try.prog 133 #[v, .func (.func f) #[] lb] w fun e w' => ∃ v', e = .returned v' ∧ w'.ownsRow base 104 7 v' k (cellsL mvC (l.take k)) ∧ Below base w w' := by
  have hL := ListAt.owns hown
  have HI := Lib.hid (mvIndex_any f lb eg p l v w hL (by omega) hp)
  by_cases hkn : k = l.length
  · have HA : Hid (∀ x ∈ l, p x = false) := Lib.hid fun x hx => h1 x (by rw [hkn, List.take_length]; exact hx)
    have HR : Hid (∀ W, Below w.heap.size w W → W.ownsRow base 104 7 v k (cellsL mvC (l.take k)) ∧ Below base w W) := Lib.hid fun W hW => ⟨by rw [hkn, List.take_length]; exact ownsRow_below hown hW, hW.mono hbase⟩
    clear hown h1 h2 hp hL hkn hk hbase
    go_enter Try.func133, Try.ntmps133
    go_wp2_with fail
    refine (HI.out).mono ?_
    rintro e w1 ⟨i, rfl, hi, hb⟩
    rcases hi with ⟨rfl, _⟩ | ⟨k', rfl, hk', hpk, _⟩
    · have HR2 := Lib.hid (HR.out _ hb)
      clear hb HI HR
      go_wp2
      go_ret
      exact ⟨_, rfl, HR2.out⟩
    · rw [HA.out _ (List.getElem_mem hk')] at hpk
      cases hpk
  · have hlt : k < l.length := by omega
    obtain ⟨n, hn⟩ : ∃ n, n = l.length := ⟨_, rfl⟩
    rcases hown.2 with ⟨_, h0⟩ | ⟨g, cap, cur, rfl, hbg, hg, hnc, hcm, hsz, htk⟩
    · omega
    obtain ⟨if0, hi0, hz0, hsz0, hby0⟩ := info_parts Try.infoDelMv
    obtain ⟨m, hm⟩ : ∃ m, n - k = m + 1 := ⟨n - k - 1, by omega⟩
    obtain ⟨Z, hZ⟩ : ∃ Z : List Value, Z = (Builtin.zeroCells (Value.agg #[.int .i64 0, .int .i64 0, .int .i64 0, .int .i64 0, .int .i64 0, .int .i64 0, .int .i64 0]).cells (n - k)).toList := ⟨_, rfl⟩
    have hZl : Z.length = (n - k) * 7 := by rw [hZ, Array.length_toList, size_zeroCells]; rfl
    have hZ1 : ∀ v ∈ Z, v.oneCell' = true := by rw [hZ]; exact zero7_one _
    obtain ⟨c3, hc3⟩ : ∃ c3, c3 = cur.toList.take (k * 7) ++ Z ++ cur.toList.drop (k * 7 + Z.length) := ⟨_, rfl⟩
    have hfit : k * 7 + Z.length ≤ cap * 7 := by rw [hZl]; omega
    have HCLR : Hid (∀ W, Below w.heap.size w W → ∀ ty c, (Builtin.clear_ #[27] ty #[.slice (some ⟨g, k * 7, none⟩) (n - k) c]).run Try.prog W = .ok (.tuple #[]) (W.setRow g c3.toArray)) := Lib.hid fun W hW ty c => by
      have hst := run_storeCells_at (P := Try.prog) g (k * 7) 104 Z 0 cur W ((hW.block g (obj_lt hg)).trans hg) (by rw [hsz]; omega) hZ1
      rw [Nat.add_zero, ← hc3] at hst
      rw [hm]
      rw [hZ, hm] at hst
      simp [Builtin.clear_, run_underlying Try.underlying27, zeroValue, typeInfo, hi0, hz0, hst]
    have HR : Hid (∀ W, Below w.heap.size w W → (W.setRow g c3.toArray).ownsRow base 104 7 (.slice (some ⟨g, 0, none⟩) k cap) k (cellsL mvC (l.take k)) ∧ Below base w (W.setRow g c3.toArray)) := Lib.hid fun W hW => by
      refine ⟨owns_setRow ((hW.block g (obj_lt hg)).trans hg) hbg (by omega) hcm ?_ ?_, (hW.mono hbase).grown (row := some g) (grown_setRow W g _) (Nat.le_trans hbase hW.size) (fun k hk => by injection hk with hk; omega)⟩
      · rw [hc3, List.length_append, List.length_append, List.length_take, List.length_drop, Array.length_toList, hsz]; omega
      · rw [hc3, List.append_assoc]
        have h : (cur.toList.take (k * 7)).length = k * 7 := by rw [List.length_take, Array.length_toList, hsz]; omega
        rw [List.take_left' h, cellsL_take mvF, ← htk, List.take_take]
        congr 1
        exact (Nat.min_eq_left (Nat.mul_le_mul_right 7 hk)).symm
    have HCC : Hid (∀ W, Below w.heap.size w W → ∀ j (hj : j < l.length), ∀ i, i < 7 → W.cell? ⟨g, 0 + j * 7 + i, none⟩ = (mvC l[j])[i]?) := Lib.hid fun W hW j hj i hi => by
      have h := (ownsRow_below hown hW).cells (g := g) rfl (j * 7 + i) ((mvC l[j])[i]'(by rw [mvF.len]; exact hi)) (by rw [cellsL_get mvF l j i hj hi]; exact List.getElem?_eq_getElem _)
      rw [Addr.add_lit] at h
      rw [Nat.zero_add] at h ⊢
      rw [h]
      exact (List.getElem?_eq_getElem _).symm
    have HP := Lib.hid hp
    have HN := Lib.hid hn
    have HPK : Hid (p l[k] = true) := Lib.hid (h2 _ (by rw [List.drop_eq_getElem_cons hlt]; exact List.mem_cons_self))
    have HPR : Hid (∀ j (hj : j < l.length), k ≤ j → p l[j] = true) := Lib.hid fun j hj hkj => h2 _ (List.mem_iff_getElem.2 ⟨j - k, by rw [List.length_drop]; omega, by rw [List.getElem_drop]; congr 1; omega⟩)
    have H1 := Lib.hid h1
    have hcm2 : cap ≤ 1000000000000 ∨ True := Or.inr trivial
    rw [← hn] at hl hk hkn hlt hnc HI ⊢
    unfold maxLen at hcm
    clear hown h1 h2 hp hL hn htk hc3 hZ hZl hZ1 hi0 hz0 hsz0 hby0 hfit hg hsz hbg hcm2
    go_enter Try.func133, Try.ntmps133
    go_wp2_with fail
    refine (HI.out).mono ?_
    rintro e w1 ⟨i, rfl, hi, hb⟩
    rcases hi with ⟨rfl, hall⟩ | ⟨k', rfl, hk', hpk, hbef⟩
    · rw [hall _ (List.getElem_mem _)] at HPK
      cases HPK.out
    · obtain rfl : k' = k := by
        rcases Nat.lt_trichotomy k' k with h | h | h
        · have := H1.out l[k'] (List.mem_iff_getElem.2 ⟨k', by rw [List.length_take]; omega, by rw [List.getElem_take]⟩)
          rw [this] at hpk; cases hpk
        · exact h
        · have := hbef l[k] (List.mem_iff_getElem.2 ⟨k, by rw [List.length_take]; omega, by rw [List.getElem_take]⟩)
          rw [this] at HPK; cases HPK.out
      have HB1 := Lib.hid hb
      clear hb hbef hpk HPK H1 HI
      have hk0 : (0 : Int) ≤ (k' : Int) := by omega
      have hkne : ¬ ((k' : Int) = -1) := by omega
      have hw1 : IntKind.i64.wrap ((k' : Int) + 1) = (k' : Int) + 1 := IntWalk.i64_in _ (by omega)
      go_wp2
      go_loopw [5, 6] (fun iv jv wr => ∃ j : Nat, iv = .int .i64 (k' : Int) ∧ jv = .int .i64 (j : Int) ∧ k' < j ∧ j ≤ n ∧ Hid (Below w.heap.size w wr)) (fun _ jv _ => n - (RowKit.intOf jv).toNat)
      case atStart => exact ⟨k' + 1, rfl, by first | rfl | go_num, by omega, by omega, HB1⟩
      case round =>
        obtain ⟨j, rfl, rfl, hkj, hjn, HB⟩ := hrel
        by_cases hlj : j < n
        · have hjl : j < l.length := by rw [← HN.out]; exact hlj
          have hcell := fun i (hi : i < 7) => HCC.out wr HB.out j hjl i hi
          have hcall := fun W (hW : Below w.heap.size w W) => HP.out l[j] (List.getElem_mem hjl) W hW
          rw [HPR.out j hjl (by omega)] at hcall
          generalize l[j] = x at *
          obtain ⟨y0, y1, y2, y3, y4, y5, y6⟩ := x
          simp only [mvC] at hcell hcall
          have c0 := hcell 0 (by omega)
          have c1 := hcell 1 (by omega)
          have c2 := hcell 2 (by omega)
          have c3' := hcell 3 (by omega)
          have c4 := hcell 4 (by omega)
          have c5 := hcell 5 (by omega)
          have c6 := hcell 6 (by omega)
          simp at c0 c1 c2 c3' c4 c5 c6
          have hj0 : (0 : Int) ≤ (j : Int) := by omega
          have hj1 : (j : Int) < (n : Int) := by omega
          have hwj : IntKind.i64.wrap ((j : Int) + 1) = (j : Int) + 1 := IntWalk.i64_in _ (by omega)
          obtain ⟨W2, hW2⟩ : ∃ W2, W2 = wr.alloc (.cells #[.int .i64 y0, .int .i64 y1, .int .i64 y2, .int .i64 y3, .int .i64 y4, .int .i64 y5, .int .i64 y6] 104) := ⟨_, rfl⟩
          have HB2 : Hid (Below w.heap.size w W2) := Lib.hid (by rw [hW2]; exact HB.out.alloc HB.out.size _)
          have HX2 : Hid (W2.heap[wr.heap.size]? = some (.cells #[.int .i64 y0, .int .i64 y1, .int .i64 y2, .int .i64 y3, .int .i64 y4, .int .i64 y5, .int .i64 y6] 104 (0, 0))) := Lib.hid (by rw [hW2]; exact heap_alloc_new wr _)
          have HCALL := Lib.hid (hcall W2 HB2.out)
          clear hcell hcall
          go_upto_region 8 with fail
          rw [← hW2]
          clear hW2 c0 c1 c2 c3' c4 c5 c6
          have hX := HX2.out
          have d0 := obj_cell hX 0
          have d1 := obj_cell hX 1
          have d2 := obj_cell hX 2
          have d3 := obj_cell hX 3
          have d4 := obj_cell hX 4
          have d5 := obj_cell hX 5
          have d6 := obj_cell hX 6
          simp at d0 d1 d2 d3 d4 d5 d6
          clear hX
          go_wp2_with fail
          with_reducible refine (HCALL.out).mono ?_
          rintro e w9 ⟨rfl, hb9⟩
          have HB9 := Lib.hid (HB2.out.trans (hb9.mono HB2.out.size))
          clear hb9 HCALL HB HB2 HX2 d0 d1 d2 d3 d4 d5 d6
          go_wp2
          go_roundw
          case rel => ((repeat apply Exists.intro); exact ⟨⟨j + 1, rfl, by first | rfl | go_num, by omega, by omega, Lib.hid HB9.out⟩, rfl⟩)
          case measure => simp [RowKit.intOf]; omega
        · obtain rfl : j = n := by omega
          have HC2 := Lib.hid (HCLR.out _ HB.out)
          have HR2 := Lib.hid (HR.out _ HB.out)
          clear HCLR HR HB HCC HP HPR hm
          have hnk : ¬ (cap = k') := by omega
          have hkn2 : (k' : Int) ≤ (j : Int) := by omega
          have hkc : (k' : Int) ≤ (cap : Int) := by omega
          have hnc2 : (j : Int) ≤ (cap : Int) := by omega
          go_wp2_with ((with_reducible refine wpList_clearMv (by rfl) (.tmp 38) 27 (by rfl) (.tuple #[]) (wr.setRow g c3.toArray) ?_ ?_); · exact HC2.out _ _)
          go_ret
          exact ⟨_, rfl, HR2.out⟩

end Go.Proofs.Ytblidmkkbcobgaa
