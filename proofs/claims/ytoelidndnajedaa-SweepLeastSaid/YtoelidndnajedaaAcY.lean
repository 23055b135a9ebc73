/- Contracts of the account's own last, Next, chosen, Flow. -/
import Derived.Test.YtoelidndnajedaaAcT
import Derived.Test.YtoelidndnajedaaAcO
import Derived.Test.YtoelidndnajedaaOwnO
set_option linter.unusedSimpArgs false
set_option linter.unusedVariables false
namespace Go.Proofs.Ytoelidndnajedaa
open Go.RowKit Go.Lib Go.Proofs

set_option maxHeartbeats 1000000 in
theorem aclast_any (es : List Ent) (cr : Int) (su en : Value) (w : World) (h : EntsAt w en es) (hlen : es.length ≤ 1000000) :
    Calls Try.prog 70 #[.agg #[.int .i64 cr, su, en]] w fun e w' => e = .returned (.agg (lastE es).cells.toArray) ∧ Below w.heap.size w w' := by
  rcases h.open with ⟨rfl, ao, cap, rfl⟩ | ⟨hpos, b, o, cap, rfl, hcap, hb, hc⟩
  · clear h hlen
    go_enter Try.func70, Try.ntmps70
    go_wp2
    exact retB (alloc2_at w _ _) (fun F hF => by
      have q0 := obj_cell hF 0
      have q1 := obj_cell hF 1
      have q2 := obj_cell hF 2
      have q3 := obj_cell hF 3
      have q4 := obj_cell hF 4
      have q5 := obj_cell hF 5
      simp [results, Try.results70, go_sem, q0, q1, q2, q3, q4, q5]
      rfl) rfl ⟨rfl, below2 w _ _⟩
  · obtain ⟨m, hm⟩ : ∃ m, es.length = m + 1 := ⟨es.length - 1, by omega⟩
    have hl : lastE es = entAt es m := lastE_at hm
    rw [hl]
    have hcm := hc m (by omega)
    generalize entAt es m = x at *
    obtain ⟨x0, x1, x2, x3, x4, x5⟩ := x
    rw [hm] at hcap hlen ⊢
    have c0 := hcm 0 (by omega)
    have c1 := hcm 1 (by omega)
    have c2 := hcm 2 (by omega)
    have c3 := hcm 3 (by omega)
    have c4 := hcm 4 (by omega)
    have c5 := hcm 5 (by omega)
    simp [Ent.cells] at c0 c1 c2 c3 c4 c5
    have hm0 : (0 : Int) ≤ (m : Int) := by omega
    clear hcm hc hl hm h hpos
    go_enter Try.func70, Try.ntmps70
    go_wp2
    exact retB (alloc2_at w _ _) (fun F hF => by
      have q0 := obj_cell hF 0
      have q1 := obj_cell hF 1
      have q2 := obj_cell hF 2
      have q3 := obj_cell hF 3
      have q4 := obj_cell hF 4
      have q5 := obj_cell hF 5
      simp [results, Try.results70, go_sem, q0, q1, q2, q3, q4, q5]
      rfl) rfl ⟨rfl, below2 w _ _⟩

set_option maxHeartbeats 1000000 in
theorem acNext_any (es : List Ent) (cr : Int) (su en : Value) (d f t am r : Int) (w : World) (h : EntsAt w en es) (hlen : es.length ≤ 1000000) (n0 : -1000000000 ≤ (lastE es).number) (n1 : (lastE es).number ≤ 1000000000) :
    Calls Try.prog 42 #[.agg #[.int .i64 cr, su, en], .int .i64 d, .int .i64 f, .int .i64 t, .int .i64 am, .int .i64 r] w fun e w' => e = .returned (.agg (nextM es d f t am r).cells.toArray) ∧ Below w.heap.size w w' := by
  have HL := Lib.hid (aclast_any es cr su en ((w.alloc (.cells #[.int .i64 cr, su, en] 28)).alloc (.cells #[.int .i64 0, .int .i64 0, .int .i64 0, .int .i64 0, .int .i64 0, .int .i64 0] 38)) (h.below (below2 w _ _)) hlen)
  unfold nextM
  generalize lastE es = x at *
  obtain ⟨x0, x1, x2, x3, x4, x5⟩ := x
  have hfd := field_number x0 x1 x2 x3 x4 x5
  simp only [Ent.cells] at HL n0 n1 ⊢
  clear h hlen
  go_enter Try.func42, Try.ntmps42
  go_wp2_with fail
  refine (HL.out).mono ?_
  rintro e w1 ⟨rfl, hb1⟩
  have h1 := obj_below (alloc2_at w (.cells #[.int .i64 cr, su, en] 28) (.cells #[.int .i64 0, .int .i64 0, .int .i64 0, .int .i64 0, .int .i64 0, .int .i64 0] 38)) hb1
  have HB1 := Lib.hid ((below2 w (.cells #[.int .i64 cr, su, en] 28) (.cells #[.int .i64 0, .int .i64 0, .int .i64 0, .int .i64 0, .int .i64 0, .int .i64 0] 38)).trans (hb1.mono (by simp; omega)))
  have H1 := Lib.hid h1
  have u0 := obj_cell h1 0
  have u1 := obj_cell h1 1
  have u2 := obj_cell h1 2
  have u3 := obj_cell h1 3
  have u4 := obj_cell h1 4
  have u5 := obj_cell h1 5
  have f0 := obj_free h1 0
  have f1 := obj_free h1 1
  have f2 := obj_free h1 2
  have f3 := obj_free h1 3
  have f4 := obj_free h1 4
  have f5 := obj_free h1 5
  simp at u0 u1 u2 u3 u4 u5
  clear h1 hb1 HL
  go_wp2
  show bodyPost Try.prog Try.f42 _ Exit.ret _ (put6 w1 (w.heap.size + 1) (.int .i64 (x0 + 1)) (.int .i64 d) (.int .i64 f) (.int .i64 t) (.int .i64 am) (.int .i64 r))
  exact ret6 H1.out rfl _ _ _ _ _ _ (fun F hF => by
    have q0 := obj_cell hF 0
    have q1 := obj_cell hF 1
    have q2 := obj_cell hF 2
    have q3 := obj_cell hF 3
    have q4 := obj_cell hF 4
    have q5 := obj_cell hF 5
    simp [results, Try.results42, go_sem, q0, q1, q2, q3, q4, q5]) rfl ⟨rfl, put6_below HB1.out (by omega) _ _ _ _ _ _⟩


/-- A test that is called with one entry. -/
def EntTest (f : Nat) (lb : Array Value) (p : Ent → Bool) (xs : List Ent) (Old : World → Prop) : Prop :=
  ∀ x ∈ xs, ∀ W, Old W → Calls Try.prog f (#[.agg x.cells.toArray] ++ lb) W fun e W' => e = .returned (.bool (p x)) ∧ Below W.heap.size W W'
theorem ent_one (x : Ent) : ∀ u ∈ x.cells, u.oneCell' = true := entF.one x
theorem filter_take_snoc {p : Ent → Bool} {es : List Ent} {k : Nat} (hk : k < es.length) : (es.take (k + 1)).filter p = (es.take k).filter p ++ (if p (entAt es k) = true then [entAt es k] else []) := by
  rw [List.take_succ_eq_append_getElem hk, List.filter_append, entAt_get hk]
  congr 1
  cases hp : p es[k] <;> simp [hp]

set_option maxRecDepth 100000 in
set_option maxHeartbeats 4000000 in
theorem acchosen_any (f : Nat) (lb : Array Value) (eg : ∀ args w, (callFunc f args).run Try.prog w = .ok (.enter f args) w) (p : Ent → Bool) (es : List Ent) (cr : Int) (su en : Value) (w : World)
    (h : EntsAt w en es) (hlen : es.length ≤ 1000000) (hp : EntTest f lb p es fun W => Below w.heap.size w W) :
    Calls Try.prog 72 #[.agg #[.int .i64 cr, su, en], .func (.func f) #[] lb] w fun e w' => ∃ v, e = .returned v ∧ w'.ownsRow w.heap.size 38 6 v (es.filter p).length (cellsN (es.filter p)) ∧ Below w.heap.size w w' := by
  obtain ⟨i0, hi0, hz0, hz1, hz2⟩ := infoE_parts
  obtain ⟨ao, cap, rfl, hcap, hcs⟩ := (ents_list.1 h).shape entF
  obtain ⟨n, hn⟩ : ∃ n, n = es.length := ⟨_, rfl⟩
  have HN := Lib.hid hn
  have HCS := Lib.hid hcs
  have HP := Lib.hid hp
  have HNIL : Hid (w.ownsRow w.heap.size 38 6 (.slice none 0 0) ((es.take 0).filter p).length (cellsN ((es.take 0).filter p))) := Lib.hid (World.ownsRow_nil _ _ _ _)
  rw [← hn] at hlen hcap ⊢
  clear hp hn hcs h
  go_enter Try.func72, Try.ntmps72
  go_wp2
  go_loopw [5, 11] (fun u i wr => ∃ (k : Nat) (q : List Ent), i = .int .i64 k ∧ k ≤ n ∧ Hid (q = (es.take k).filter p) ∧ q.length ≤ k ∧ Hid (wr.ownsRow w.heap.size 38 6 u q.length (cellsN q)) ∧ Hid (Below w.heap.size w wr)) (fun _ i _ => n - (RowKit.intOf i).toNat)
  case atStart => exact ⟨0, _, rfl, by omega, Lib.hid rfl, by simp, Lib.hid (HNIL.out.alloc _), Lib.hid (below_alloc w _)⟩
  case round =>
    obtain ⟨k, q, rfl, hkn, HQ, hql, HO, HB⟩ := hrel
    by_cases hlt : k < n
    · have hkl : k < es.length := by rw [← HN.out]; exact hlt
      obtain ⟨b, o, rfl, hb, hc⟩ := HCS.out (by omega)
      have hbk := fun j (hj : j < 6) => (HB.out.cell (p := ⟨b, o + k * 6 + j, none⟩) hb).trans (hc k hkl j hj)
      rw [← entAt_get hkl] at hbk
      have HST := Lib.hid (filter_take_snoc (p := p) hkl)
      have hcall := fun W hW => HP.out (entAt es k) (by rw [entAt_get hkl]; exact List.getElem_mem hkl) W hW
      obtain ⟨c, hcc⟩ : ∃ c, c = p (entAt es k) := ⟨_, rfl⟩
      rw [← hcc] at HST hcall
      clear hcc
      generalize entAt es k = x at *
      have HXB := Lib.hid (heap_alloc_new wr (.cells x.cells.toArray 38))
      have HB2 := Lib.hid (HB.out.alloc HB.out.size (.cells x.cells.toArray 38))
      have HO2 : Hid ((wr.alloc (.cells x.cells.toArray 38)).ownsRow w.heap.size 38 6 u5 q.length (cellsN q)) := Lib.hid (HO.out.alloc _)
      have HAPP : Hid (cellsN (q ++ [x]) = cellsN q ++ x.cells) := Lib.hid (by rw [cellsN_app]; simp [cellsN])
      have HLB : Hid (∀ r, u5.ownBlock = some r → w.heap.size ≤ r) := Lib.hid (fun r e => ownBlock_le HO.out r e)
      obtain ⟨x0, x1, x2, x3, x4, x5⟩ := x
      have c0 := hbk 0 (by omega)
      have c1 := hbk 1 (by omega)
      have c2 := hbk 2 (by omega)
      have c3 := hbk 3 (by omega)
      have c4 := hbk 4 (by omega)
      have c5 := hbk 5 (by omega)
      simp [Ent.cells] at c0 c1 c2 c3 c4 c5
      simp only [Ent.cells] at HXB HB2 HO2 hcall
      try simp at hcall
      have HC := Lib.hid hcall
      have hk0 : (0 : Int) ≤ (k : Int) := by omega
      have hk1 : (k : Int) < (n : Int) := by omega
      have hbw : b < wr.heap.size := Nat.lt_of_lt_of_le hb HB.out.size
      clear hbk hc hcall
      cases c with
      | false =>
        have HQ2 : Hid (q = (es.take (k + 1)).filter p) := Lib.hid (by rw [HST.out, ← HQ.out]; simp)
        go_wp2_with fail
        with_reducible refine (HC.out _ HB2.out).mono ?_
        rintro e w1 ⟨rfl, hb1⟩
        have HB1 := Lib.hid (HB2.out.trans (hb1.mono HB2.out.size))
        have HO1 := Lib.hid (ownsRow_below HO2.out hb1)
        clear hb1
        go_wp2
        go_roundw
        case rel => exact ⟨k + 1, q, by first | rfl | go_num, by omega, HQ2, by omega, HO1, HB1⟩
        case measure => simp [RowKit.intOf]; omega
      | true =>
        have HQ2 : Hid (q ++ [⟨x0, x1, x2, x3, x4, x5⟩] = (es.take (k + 1)).filter p) := Lib.hid (by rw [HST.out, ← HQ.out]; simp)
        go_wp2_with fail
        with_reducible refine (HC.out _ HB2.out).mono ?_
        rintro e w1 ⟨rfl, hb1⟩
        have HB1 := Lib.hid (HB2.out.trans (hb1.mono HB2.out.size))
        have HO1 := Lib.hid (ownsRow_below HO2.out hb1)
        have hx1 := obj_below HXB.out hb1
        have z0 := obj_cell hx1 0
        have z1 := obj_cell hx1 1
        have z2 := obj_cell hx1 2
        have z3 := obj_cell hx1 3
        have z4 := obj_cell hx1 4
        have z5 := obj_cell hx1 5
        simp at z0 z1 z2 z3 z4 z5
        clear hb1 hx1
        go_wp2_with (at_builtin; refine wpList_append_own _ rfl _ _ 26 rfl w.heap.size 38 i0 (.agg #[.int .i64 0, .int .i64 0, .int .i64 0, .int .i64 0, .int .i64 0, .int .i64 0]) 6 48 Try.underlying26 hi0 hz0 hz1 hz2 rfl (by decide) _ _ _ rfl (HO1.out.alloc _) ⟨w1.heap.size, 0, none⟩ 1 1 (Ent.cells ⟨x0, x1, x2, x3, x4, x5⟩) rfl rfl (new_cells _ _ _ _ rfl) (ent_one _) (by unfold maxLen; omega) (by omega) (by have := HB1.out.size; simp; omega) ?_; intro v' w4 hown4 hgr4 _)
        have HB4 : Hid (Below w.heap.size w w4) := Lib.hid ((HB1.out.alloc HB1.out.size _).grown hgr4 (by have := HB1.out.size; simp; omega) fun r e => HLB.out r e)
        have HO4 : Hid (w4.ownsRow w.heap.size 38 6 v' (q ++ [(⟨x0, x1, x2, x3, x4, x5⟩ : Ent)]).length (cellsN (q ++ [⟨x0, x1, x2, x3, x4, x5⟩]))) := Lib.hid (by
          rw [HAPP.out, List.length_append]
          exact hown4)
        clear hown4 hgr4
        go_wp2
        go_roundw
        case rel => exact ⟨k + 1, q ++ [⟨x0, x1, x2, x3, x4, x5⟩], by first | rfl | go_num, by omega, HQ2, by simp; omega, HO4, HB4⟩
        case measure => simp [RowKit.intOf]; omega
    · obtain rfl : k = n := by omega
      have HQ2 : Hid (q = es.filter p) := Lib.hid (by rw [HQ.out, HN.out, List.take_length])
      go_wp2
      go_ret
      refine ⟨_, rfl, ?_, HB.out⟩
      rw [← HQ2.out]
      exact HO.out

end Go.Proofs.Ytoelidndnajedaa
