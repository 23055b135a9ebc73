/- slices.DeleteFunc on a row of postings of the call's own, for every predicate that returns; for rows of up to 1000 elements. -/
import Derived.Test.YtknmgkjfopoinaaGreatDoorMLgS
import Derived.Test.YtknmgkjfopoinaaGreatDoorMPut8
import Derived.Lib.SliceRun
import Derived.Maps.AppendAt
import Derived.Deep.DeepCutAuto
set_option linter.unusedSimpArgs false
set_option linter.unusedVariables false
set_option linter.unusedSimpArgs false
set_option linter.unusedVariables false
namespace Go.Proofs.YtknmgkjfopoinaaGreatDoor
open Go.RowKit Go.Lib Go.Proofs

/-! ### Stores within a row of the call's own -/
theorem setCells_rowK {base g n cap size : Nat} {e : TypeId} : ∀ (vs : List Value) (o : Nat) (W : World) (xs : List Value), o + vs.length ≤ xs.length → W.ownsRow base e size (.slice (some ⟨g, 0, none⟩) n cap) n xs → (W.setCells g o vs).ownsRow base e size (.slice (some ⟨g, 0, none⟩) n cap) n (xs.take o ++ vs ++ xs.drop (o + vs.length)) ∧ W.grownBy (W.setCells g o vs) (some g)
  | [], o, W, xs, hl, h => by
    rw [show W.setCells g o [] = W from rfl]
    exact ⟨by simpa using h, grownBy_refl _ _⟩
  | u :: vs, o, W, xs, hl, h => by
    rw [List.length_cons] at hl
    obtain ⟨h1, h2⟩ := h.stored o u
    obtain ⟨h3, h4⟩ := setCells_rowK vs (o + 1) _ (xs.set o u) (by rw [List.length_set]; omega) h1
    refine ⟨?_, grownBy_trans h2 h4⟩
    have e : (xs.set o u).take (o + 1) ++ vs ++ (xs.set o u).drop (o + 1 + vs.length) = xs.take o ++ (u :: vs) ++ xs.drop (o + (vs.length + 1)) := by
      rw [List.take_succ_eq_append_getElem (by rw [List.length_set]; omega), List.take_set_of_le (Nat.le_refl _), List.getElem_set_self, List.drop_set_of_lt (by omega), show o + 1 + vs.length = o + (vs.length + 1) by omega]
      simp
    rw [e] at h3
    exact h3
theorem cellsL_takeK {α : Type} {f : α → List Value} {m : Nat} (hf : Fields f m) : ∀ (l : List α) (i : Nat), cellsL f (l.take i) = (cellsL f l).take (i * m)
  | [], i => by simp [cellsL]
  | x :: l, 0 => by simp [cellsL]
  | x :: l, i + 1 => by
    rw [List.take_succ_cons, cellsL, cellsL, cellsL_takeK hf l i, show (i + 1) * m = (f x).length + i * m by rw [hf.len, Nat.add_mul]; omega, List.take_length_add_append]
theorem cellsL_dropK {α : Type} {f : α → List Value} {m : Nat} (hf : Fields f m) : ∀ (l : List α) (i : Nat), cellsL f (l.drop i) = (cellsL f l).drop (i * m)
  | [], i => by simp [cellsL]
  | x :: l, 0 => by simp [cellsL]
  | x :: l, i + 1 => by
    rw [List.drop_succ_cons, cellsL, cellsL_dropK hf l i, show (i + 1) * m = (f x).length + i * m by rw [hf.len, Nat.add_mul]; omega, List.drop_length_add_append]
theorem cellsL_put {α : Type} {f : α → List Value} {m : Nat} (hf : Fields f m) (l : List α) (i : Nat) (x : α) (h : i < l.length) : cellsL f (l.set i x) = (cellsL f l).take (i * m) ++ f x ++ (cellsL f l).drop (i * m + m) := by
  rw [List.set_eq_take_append_cons_drop, if_pos h, cellsL_app, cellsL, cellsL_takeK hf, cellsL_dropK hf, show (i + 1) * m = i * m + m by rw [Nat.add_mul]; omega]
  simp
/-- A struct stored at a place of a row of the call's own. -/
theorem set_rowK {α : Type} {f : α → List Value} {m : Nat} (hf : Fields f m) {base g n cap i : Nat} {e : TypeId} {W : World} {l : List α} (h : W.ownsRow base e m (.slice (some ⟨g, 0, none⟩) n cap) n (cellsL f l)) (hi : i < l.length) (x : α) :
    (W.setCells g (i * m) (f x)).ownsRow base e m (.slice (some ⟨g, 0, none⟩) n cap) n (cellsL f (l.set i x)) ∧ W.grownBy (W.setCells g (i * m) (f x)) (some g) := by
  have h1 : i * m + (f x).length ≤ (cellsL f l).length := by
    rw [hf.len, cellsL_len hf]
    have : (i + 1) * m ≤ l.length * m := Nat.mul_le_mul_right m hi
    rw [Nat.add_mul] at this
    omega
  have h2 := setCells_rowK (f x) (i * m) W (cellsL f l) h1 h
  rw [hf.len] at h2
  rw [cellsL_put hf l i x hi]
  exact h2
theorem take_rowK {w : World} {base g n cap i m : Nat} {e : TypeId} {xs : List Value} (h : w.ownsRow base e m (.slice (some ⟨g, 0, none⟩) n cap) n xs) (hi : i ≤ n) : w.ownsRow base e m (.slice (some ⟨g, 0, none⟩) i cap) i (xs.take (i * m)) := by
  rcases h.2 with ⟨h', _⟩ | ⟨g', cap', cur, h', hb, hg, hnc, hcm, hcs, htake⟩
  · simp at h'
  · simp only [Value.slice.injEq, Option.some.injEq, Addr.mk.injEq, and_true, true_and] at h'
    obtain ⟨rfl, rfl⟩ := h'
    have hl := h.1
    have him : i * m ≤ n * m := Nat.mul_le_mul_right m hi
    refine ⟨by rw [List.length_take, hl]; omega, .inr ⟨g, cap, cur, rfl, hb, hg, by omega, hcm, hcs, ?_⟩⟩
    rw [← htake, List.take_take, Nat.min_eq_left him]

/-! ### What a round of DeleteFunc leaves -/
theorem filter_headD {α : Type} {p : α → Bool} {xs : List α} {k : Nat} (hk : k < xs.length) (h1 : p xs[k] = true) (h2 : ∀ x ∈ xs.take k, p x = false) : (xs.take (k + 1)).filter (fun x => !p x) = xs.take k := by
  rw [List.take_succ_eq_append_getElem hk, List.filter_append]
  have e1 : (xs.take k).filter (fun x => !p x) = xs.take k := List.filter_eq_self.2 fun x hx => by rw [h2 x hx]; rfl
  rw [e1]
  simp [h1]
theorem filter_stepD {α : Type} {p : α → Bool} {xs : List α} {k : Nat} (hk : k < xs.length) : (xs.take (k + 1)).filter (fun x => !p x) = (xs.take k).filter (fun x => !p x) ++ if p xs[k] = true then [] else [xs[k]] := by
  rw [List.take_succ_eq_append_getElem hk, List.filter_append]
  cases h : p xs[k] <;> simp [h]
structure DelP (p : Pst → Bool) (xs : List Pst) (w : World) (base g n cap i j : Nat) (W : World) : Prop where
  row : ∃ ys : List Pst, W.ownsRow base 57 8 (.slice (some ⟨g, 0, none⟩) n cap) n (cellsL pstC ys) ∧ ys.length = n ∧ ys.take i = (xs.take j).filter (fun x => !p x) ∧ ys.drop j = xs.drop j
  lt : i < j
  old : w.grownBy W (some g)
theorem DelP.keep {p : Pst → Bool} {xs : List Pst} {w : World} {base g n cap i j : Nat} {A B : World} (h : DelP p xs w base g n cap i j A) (hb : Below A.heap.size A B) : DelP p xs w base g n cap i j B :=
  ⟨h.row.imp fun _ hy => ⟨ownsRow_below hy.1 hb, hy.2⟩, h.lt, grownBy_trans h.old (grownBy_below hb)⟩
theorem DelP.cell {p : Pst → Bool} {xs : List Pst} {w : World} {base g n cap i j : Nat} {A : World} (h : DelP p xs w base g n cap i j A) (hn : n = xs.length) (hj : j < n) : ∀ q, q < 8 → A.cell? ⟨g, j * 8 + q, none⟩ = (pstC (xs[j]'(by omega)))[q]? := by
  intro q hq
  obtain ⟨⟨ys, h1, h2, h3, h4⟩, h5, h6⟩ := h
  have e : ys[j]'(by omega) = xs[j]'(by omega) := by
    have := congrArg (fun l => l[0]?) h4
    simp only [List.getElem?_drop, Nat.add_zero] at this
    rw [List.getElem?_eq_getElem (by omega), List.getElem?_eq_getElem (by omega)] at this
    injection this
  rw [h1.cellAt (j * 8 + q) (by omega), cellsL_get pstF ys j q (by omega) hq, e]
theorem DelP.spot {p : Pst → Bool} {xs : List Pst} {w : World} {base g n cap i j : Nat} {A : World} (h : DelP p xs w base g n cap i j A) (hj : j ≤ n) : ∀ q, q < 8 → (∃ u, A.cell? ⟨g, i * 8 + q, none⟩ = some u) ∧ A.frozen? ⟨g, i * 8 + q, none⟩ = false := by
  intro q hq
  obtain ⟨⟨ys, h1, h2, h3, h4⟩, h5, h6⟩ := h
  refine ⟨?_, h1.frozenAt _⟩
  have hl := h1.1
  refine ⟨(cellsL pstC ys)[i * 8 + q]'(by omega), ?_⟩
  rw [h1.cellAt (i * 8 + q) (by omega)]
  exact List.getElem?_eq_getElem _
theorem DelP.skip {p : Pst → Bool} {xs : List Pst} {w : World} {base g n cap i j : Nat} {A : World} (h : DelP p xs w base g n cap i j A) (hn : n = xs.length) (hj : j < n) (hp : p (xs[j]'(by omega)) = true) : DelP p xs w base g n cap i (j + 1) A := by
  obtain ⟨⟨ys, h1, h2, h3, h4⟩, h5, h6⟩ := h
  refine ⟨⟨ys, h1, h2, ?_, ?_⟩, by omega, h6⟩
  · rw [filter_stepD (by omega), if_pos hp, List.append_nil]; exact h3
  · rw [← List.drop_drop, ← List.drop_drop, h4]
theorem DelP.store {p : Pst → Bool} {xs : List Pst} {w : World} {base g n cap i j : Nat} {A : World} (h : DelP p xs w base g n cap i j A) (hn : n = xs.length) (hj : j < n) (hp : p (xs[j]'(by omega)) = false) : DelP p xs w base g n cap (i + 1) (j + 1) (A.setCells g (i * 8) (pstC (xs[j]'(by omega)))) := by
  obtain ⟨⟨ys, h1, h2, h3, h4⟩, h5, h6⟩ := h
  obtain ⟨s1, s2⟩ := set_rowK pstF h1 (i := i) (by omega) (xs[j]'(by omega))
  refine ⟨⟨ys.set i (xs[j]'(by omega)), s1, by simp [h2], ?_, ?_⟩, by omega, grownBy_trans h6 s2⟩
  · rw [filter_stepD (by omega), if_neg (by rw [hp]; decide), ← h3, List.take_succ_eq_append_getElem (by simp; omega)]
    rw [List.take_set_of_le (by omega)]
    simp
  · rw [List.drop_set_of_lt (by omega), ← List.drop_drop, ← List.drop_drop, h4]

theorem wpList_clearP {P : Program} {w : World} {ops : Array Oper} {rest : List Oper} {o : Oper} {a : Act} {Q : Exit → Act → World → Prop} (hgd : o.guard = none) (d : Operand) (t : TypeId)
    (ho : o.op = .call { callee := .builtin .clear, args := #[d], argTypes := #[t] }) (v' : Value) (w' : World)
    (hr : (Builtin.clear_ #[t] o.type #[a.eval d]).run P w = .ok v' w') (h : wpList P ops Q rest (a.put o.dst v') w') : wpList P ops Q (o :: rest) a w :=
  wpList_plain hgd fun _ hK => by
    unfold Oper.wp execOp
    simp only [ho, resolve, invoke, builtin, Sem.run_bind, Sem.run_pure, Result.andThen_ok, List.map_toArray, List.map_cons, List.map_nil, hr]
    exact hK _ _ h
theorem zero8_one (n : Nat) : ∀ v ∈ (Builtin.zeroCells (Value.agg #[.int .i64 0, .int .i64 0, .int .i64 0, .int .i64 0, .int .i64 0, .int .i64 0, .int .i64 0, .int .i64 0]).cells n).toList, v.oneCell' = true := by
  intro v hv
  have he : (Value.agg #[.int .i64 0, .int .i64 0, .int .i64 0, .int .i64 0, .int .i64 0, .int .i64 0, .int .i64 0, .int .i64 0]).cells = #[.int .i64 0, .int .i64 0, .int .i64 0, .int .i64 0, .int .i64 0, .int .i64 0, .int .i64 0, .int .i64 0] := by kernel_rfl
  rw [he] at hv
  unfold Builtin.zeroCells at hv
  simp only [Array.toList_map, List.mem_map] at hv
  obtain ⟨i, _, rfl⟩ := hv
  have h7 : ∀ j, j < 8 → ((#[.int .i64 0, .int .i64 0, .int .i64 0, .int .i64 0, .int .i64 0, .int .i64 0, .int .i64 0, .int .i64 0] : Array Value)[j]!) = .int .i64 0 := by
    intro j hj
    match j, hj with
    | 0, _ | 1, _ | 2, _ | 3, _ | 4, _ | 5, _ | 6, _ | 7, _ => rfl
  exact (congrArg Value.oneCell' (h7 (i % 8) (Nat.mod_lt _ (by decide)))).trans rfl
theorem Tryz.infoDfP : (Tryz.prog.info? 57).map (fun i => (i.zero, i.size, i.bytes)) = some (some (.agg #[.int .i64 0, .int .i64 0, .int .i64 0, .int .i64 0, .int .i64 0, .int .i64 0, .int .i64 0, .int .i64 0]), 8, 64) := by kernel_rfl

/-- What DeleteFunc hands back: a slice that owns what the predicate lets stay. -/
def DelPost (p : Pst → Bool) (xs : List Pst) (base : Nat) (row : Option Nat) (w : World) (e : Ending) (w' : World) : Prop :=
  ∃ v', e = .returned v' ∧ w'.ownsRow base 57 8 v' (xs.filter fun x => !p x).length (cellsL pstC (xs.filter fun x => !p x)) ∧ w.grownBy w' row

set_option maxRecDepth 100000 in
set_option maxHeartbeats 4000000 in
theorem delfPst_any (f : Nat) (lb : Array Value) (eg : ∀ args w, (callFunc f args).run Tryz.prog w = .ok (.enter f args) w) (p : Pst → Bool) (xs : List Pst) (base : Nat) (v : Value) (w : World)
    (ho : w.ownsRow base 57 8 v xs.length (cellsL pstC xs)) (hlen : xs.length ≤ 1000) (hp : pstPred f lb p xs fun W => w.grownBy W v.ownBlock) :
    Calls Tryz.prog 46 #[v, .func (.func f) #[] lb] w (DelPost p xs base v.ownBlock w) := by
  have hI := pstIndex_any f lb eg p xs v w (ListAt.owns ho) (by omega) fun x hx W hW => hp x hx W (grownBy_below hW)
  have HI := Lib.hid hI
  have HP := Lib.hid hp
  have HO := Lib.hid ho
  clear hI hp ho
  go_enter Tryz.func46, Tryz.ntmps46
  go_wp2_with fail
  refine (HI.out).mono ?_
  rintro e w1 ⟨i, rfl, hi, hb1⟩
  have HB1 := Lib.hid hb1
  clear hb1
  rcases hi with ⟨rfl, hall⟩ | ⟨k, rfl, hk, hpk, hpre⟩
  · have hf : xs.filter (fun x => !p x) = xs := List.filter_eq_self.2 fun x hx => by rw [hall x hx]; rfl
    have HF := Lib.hid hf
    clear hall hf
    go_wp2
    go_ret
    exact ⟨v, rfl, by rw [HF.out]; exact ownsRow_below HO.out HB1.out, grownBy_below HB1.out⟩
  · obtain ⟨g, cap, rfl, hg, hnc⟩ := owns_shape HO.out (by omega)
    obtain ⟨n, hn⟩ : ∃ n, n = xs.length := ⟨_, rfl⟩
    have hstart : DelP p xs w base g xs.length cap k (k + 1) w1 :=
      ⟨⟨xs, ownsRow_below HO.out HB1.out, rfl, (filter_headD hk hpk hpre).symm, rfl⟩, by omega, grownBy_below HB1.out⟩
    have hown : (Value.slice (some ⟨g, 0, none⟩) xs.length cap).ownBlock = some g := rfl
    rw [hown] at HP ⊢
    rw [← hn] at hstart hnc hlen hk ⊢
    have HN := Lib.hid hn
    have HS := Lib.hid hstart
    clear hn hstart hpk hpre hown HI
    have hk0 : ((k : Int) == -1) = false := by rw [beq_eq_false_iff_ne]; omega
    have hkne : ¬ ((k : Int) = -1) := by omega
    have hw1 : IntKind.i64.wrap ((k : Int) + 1) = (k : Int) + 1 := IntWalk.i64_in _ (by omega)
    go_wp2
    go_loopw [5, 6] (fun i j wr => ∃ a b : Nat, i = .int .i64 a ∧ j = .int .i64 b ∧ a < b ∧ b ≤ n ∧ Hid (DelP p xs w base g n cap a b wr)) (fun _ j _ => n - (RowKit.intOf j).toNat)
    case atStart => exact ⟨k, k + 1, rfl, by first | rfl | go_num, by omega, by omega, HS⟩
    case round =>
      obtain ⟨a, b, rfl, rfl, hab, hbn, HD⟩ := hrel
      by_cases hlt : b < n
      · have hlx : b < xs.length := by rw [← HN.out]; exact hlt
        have hcell := HD.out.cell HN.out hlt
        have hcall := fun W (hW : Below wr.heap.size wr W) => HP.out xs[b] (List.getElem_mem hlx) W (grownBy_trans HD.out.old (grownBy_below hW))
        have hcase : (p xs[b] = true ∧ ∀ W, Below wr.heap.size wr W → DelP p xs w base g n cap a (b + 1) W) ∨ (p xs[b] = false ∧ ∀ W, Below wr.heap.size wr W → DelP p xs w base g n cap (a + 1) (b + 1) (W.setCells g (a * 8) (pstC xs[b]))) := by
          cases hpx : p xs[b] with
          | true => exact Or.inl ⟨rfl, fun W hW => (HD.out.keep hW).skip HN.out hlt hpx⟩
          | false => exact Or.inr ⟨rfl, fun W hW => (HD.out.keep hW).store HN.out hlt hpx⟩
        have HSPOT := Lib.hid (fun W (hW : Below wr.heap.size wr W) => (HD.out.keep hW).spot hbn)
        generalize xs[b] = x at hcall hcell hcase
        obtain ⟨y0, y1, y2, y3, y4, y5, y6, y7⟩ := x
        simp only [pstC] at hcell hcall hcase
        have c0 := hcell 0 (by omega)
        have c1 := hcell 1 (by omega)
        have c2 := hcell 2 (by omega)
        have c3 := hcell 3 (by omega)
        have c4 := hcell 4 (by omega)
        have c5 := hcell 5 (by omega)
        have c6 := hcell 6 (by omega)
        have c7 := hcell 7 (by omega)
        simp at c0 c1 c2 c3 c4 c5 c6 c7
        have hj0 : (0 : Int) ≤ (b : Int) := by omega
        have hj1 : (b : Int) < (n : Int) := by omega
        have hwj : IntKind.i64.wrap ((b : Int) + 1) = (b : Int) + 1 := IntWalk.i64_in _ (by omega)
        obtain ⟨W2, hW2⟩ : ∃ W2, W2 = wr.alloc (.cells #[.int .i64 y0, .int .i64 y1, .int .i64 y2, .int .i64 y3, .int .i64 y4, .int .i64 y5, .int .i64 y6, .int .i64 y7] 57) := ⟨_, rfl⟩
        have HB2 : Hid (Below wr.heap.size wr W2) := Lib.hid (by rw [hW2]; exact below_alloc _ _)
        have HX2 : Hid (W2.heap[wr.heap.size]? = some (.cells #[.int .i64 y0, .int .i64 y1, .int .i64 y2, .int .i64 y3, .int .i64 y4, .int .i64 y5, .int .i64 y6, .int .i64 y7] 57 (0, 0))) := Lib.hid (by rw [hW2]; exact heap_alloc_new wr _)
        rcases hcase with ⟨hpx, hnew⟩ | ⟨hpx, hnew⟩
        · rw [hpx] at hcall
          have HCALL := Lib.hid (hcall W2 HB2.out)
          have HNEW := Lib.hid hnew
          clear hcall hnew hpx hcell HSPOT
          go_upto_region 8 with fail
          rw [← hW2]
          clear hW2 c0 c1 c2 c3 c4 c5 c6 c7
          have hX := HX2.out
          have d0 := obj_cell hX 0
          have d1 := obj_cell hX 1
          have d2 := obj_cell hX 2
          have d3 := obj_cell hX 3
          have d4 := obj_cell hX 4
          have d5 := obj_cell hX 5
          have d6 := obj_cell hX 6
          have d7 := obj_cell hX 7
          simp at d0 d1 d2 d3 d4 d5 d6 d7
          clear hX
          go_wp2_with fail
          with_reducible refine (HCALL.out).mono ?_
          rintro e w2 ⟨rfl, hb2⟩
          have HD2 := Lib.hid (HNEW.out _ (HB2.out.trans (hb2.mono HB2.out.size)))
          clear hb2 HCALL HNEW HB2 HX2 d0 d1 d2 d3 d4 d5 d6 d7
          go_wp2
          go_roundw
          case rel => exact ⟨a, b + 1, rfl, by first | rfl | go_num, by omega, by omega, HD2⟩
          case measure => simp [RowKit.intOf]; omega
        · rw [hpx] at hcall
          have HCALL := Lib.hid (hcall W2 HB2.out)
          have HNEW := Lib.hid hnew
          clear hcall hnew hpx hcell
          have hac : a < n := by omega
          have ha0 : (0 : Int) ≤ (a : Int) := by omega
          have ha1 : (a : Int) < (n : Int) := by omega
          have hwa : IntKind.i64.wrap ((a : Int) + 1) = (a : Int) + 1 := IntWalk.i64_in _ (by omega)
          go_upto_region 8 with fail
          rw [← hW2]
          clear hW2 c0 c1 c2 c3 c4 c5 c6 c7
          have hX := HX2.out
          have d0 := obj_cell hX 0
          have d1 := obj_cell hX 1
          have d2 := obj_cell hX 2
          have d3 := obj_cell hX 3
          have d4 := obj_cell hX 4
          have d5 := obj_cell hX 5
          have d6 := obj_cell hX 6
          have d7 := obj_cell hX 7
          simp at d0 d1 d2 d3 d4 d5 d6 d7
          clear hX
          go_wp2_with fail
          with_reducible refine (HCALL.out).mono ?_
          rintro e w2 ⟨rfl, hb2⟩
          have HB3 := Lib.hid (HB2.out.trans (hb2.mono HB2.out.size))
          have HNEW2 := Lib.hid (HNEW.out _ HB3.out)
          have hX3 := obj_below HX2.out hb2
          have d0 := obj_cell hX3 0
          have d1 := obj_cell hX3 1
          have d2 := obj_cell hX3 2
          have d3 := obj_cell hX3 3
          have d4 := obj_cell hX3 4
          have d5 := obj_cell hX3 5
          have d6 := obj_cell hX3 6
          have d7 := obj_cell hX3 7
          simp at d0 d1 d2 d3 d4 d5 d6 d7
          obtain ⟨⟨u0, s0⟩, f0⟩ := HSPOT.out _ HB3.out 0 (by omega)
          obtain ⟨⟨u1, s1⟩, f1⟩ := HSPOT.out _ HB3.out 1 (by omega)
          obtain ⟨⟨u2, s2⟩, f2⟩ := HSPOT.out _ HB3.out 2 (by omega)
          obtain ⟨⟨u3, s3⟩, f3⟩ := HSPOT.out _ HB3.out 3 (by omega)
          obtain ⟨⟨u4, s4⟩, f4⟩ := HSPOT.out _ HB3.out 4 (by omega)
          obtain ⟨⟨u5, s5⟩, f5⟩ := HSPOT.out _ HB3.out 5 (by omega)
          obtain ⟨⟨u6, s6⟩, f6⟩ := HSPOT.out _ HB3.out 6 (by omega)
          obtain ⟨⟨u7, s7⟩, f7⟩ := HSPOT.out _ HB3.out 7 (by omega)
          simp only [Nat.add_zero] at s0 f0
          clear hb2 HCALL HNEW HB2 HX2 HSPOT hX3
          go_wp2
          go_roundw
          case rel => exact ⟨a + 1, b + 1, by first | rfl | go_num, by first | rfl | go_num, by omega, by omega, HNEW2⟩
          case measure => simp [RowKit.intOf]; omega
      · obtain rfl : b = n := by omega
        obtain ⟨⟨ys, h1, h2, h3, h4⟩, h5, h6⟩ := HD.out
        obtain ⟨if0, hi0, hz0, hsz0, hby0⟩ := info_parts Tryz.infoDfP
        have hfil : ys.take a = xs.filter (fun x => !p x) := by rw [h3, List.take_of_length_le (by rw [HN.out]; exact Nat.le_refl _)]
        have hlena : (xs.filter fun x => !p x).length = a := by rw [← hfil]; simp; omega
        obtain ⟨m, hm⟩ : ∃ m, b - a = m + 1 := ⟨b - a - 1, by omega⟩
        obtain ⟨Z, hZ⟩ : ∃ Z : List Value, Z = (Builtin.zeroCells (Value.agg #[.int .i64 0, .int .i64 0, .int .i64 0, .int .i64 0, .int .i64 0, .int .i64 0, .int .i64 0, .int .i64 0]).cells (b - a)).toList := ⟨_, rfl⟩
        have hZl : Z.length = (b - a) * 8 := by rw [hZ, Array.length_toList, size_zeroCells]; rfl
        have hZ1 : ∀ v ∈ Z, v.oneCell' = true := by rw [hZ]; exact zero8_one _
        have hl1 := h1.1
        have hst : Sem.run Tryz.prog (storeCells ⟨g, a * 8, none⟩ Z 0) wr = .ok () (wr.setCells g (a * 8) Z) := run_storeCells_cells g (a * 8) Z 0 wr (fun j hj => by
          show (wr.cell? ⟨g, a * 8 + j, none⟩).isSome = true
          rw [h1.cellAt (a * 8 + j) (by omega), List.getElem?_eq_getElem (by omega)]; rfl) (fun j hj => h1.frozenAt _) hZ1
        have hcl : ∀ ty c, (Builtin.clear_ #[25] ty #[.slice (some ⟨g, a * 8, none⟩) (b - a) c]).run Tryz.prog wr = .ok (.tuple #[]) (wr.setCells g (a * 8) Z) := fun ty c => by
          have hst2 := hst
          rw [hm]
          rw [hZ, hm] at hst2 ⊢
          simp [Builtin.clear_, run_underlying Tryz.underlying25, zeroValue, typeInfo, hi0, hz0, hst2]
        have hfin := setCells_rowK Z (a * 8) wr (cellsL pstC ys) (by omega) h1
        have hfin2 := take_rowK hfin.1 (i := a) (by omega)
        have he : (List.take (a * 8) (cellsL pstC ys) ++ Z ++ List.drop (a * 8 + Z.length) (cellsL pstC ys)).take (a * 8) = cellsL pstC (xs.filter fun x => !p x) := by
          rw [← hfil, cellsL_takeK pstF, List.append_assoc]
          have : (List.take (a * 8) (cellsL pstC ys)).length = a * 8 := by rw [List.length_take]; omega
          exact List.take_left' this
        rw [he] at hfin2
        have HFIN := Lib.hid hfin2
        have H6 := Lib.hid (grownBy_trans h6 hfin.2)
        have HLA := Lib.hid hlena
        have HCL := Lib.hid hcl
        clear h1 h2 h3 h4 h6 hfil hlena hfin hfin2 he HD hcl hst hZ hZ1 hZl hl1 hm hi0 hz0 hsz0 hby0
        have hac : (a : Int) ≤ (b : Int) := by omega
        have hnc2 : (b : Int) ≤ (cap : Int) := by omega
        have hacp : (a : Int) ≤ (cap : Int) := by omega
        have hnk : ¬ (cap = a) := by omega
        go_wp2_with ((with_reducible refine wpList_clearP (by rfl) (.tmp 38) 25 (by rfl) (.tuple #[]) (wr.setCells g (a * 8) Z) ?_ ?_); · exact HCL.out _ _)
        go_ret
        exact ⟨_, rfl, by rw [HLA.out]; exact HFIN.out, H6.out⟩

end Go.Proofs.YtknmgkjfopoinaaGreatDoor
