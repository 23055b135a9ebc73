/- consolidation.Check and Explain of a right ledger and a right group: all differences, in order. -/
import Derived.Test.YtdbpbmejgdbppaaCsE
set_option linter.unusedSimpArgs false
set_option linter.unusedVariables false
namespace Go.Proofs.Ytdbpbmejgdbppaa
open Go.RowKit Go.Lib Go.Proofs Go.Maps

theorem cswithin_yes {n lo hi : Int} (w : World) (h1 : lo ≤ n) (h2 : n ≤ hi) : Calls Try.prog 25 #[.int .i64 n, .int .i64 lo, .int .i64 hi] w fun e w' => e = .returned (.bool true) ∧ w = w' := by
  go_enter Try.func25, Try.ntmps25
  go_wp2
  go_ret
  exact ⟨rfl, rfl⟩

set_option maxRecDepth 100000 in
set_option maxHeartbeats 4000000 in
theorem csCheck_right {l : List Pst} (h : LdgOk l) {g : List Int} (hgo : GrpOk g) (vl vg : Value) (w : World) (hl : PstsAt w vl l) (hg : ListAt intC 1 w vg g) :
    Calls Try.prog 24 #[.agg #[vl], vg] w fun e w' => e = .returned (.int .i64 0) ∧ Below w.heap.size w w' := by
  have HCK := Lib.hid (fun W (hW : Below w.heap.size w W) => lgCheck_right h vl W (hl.below hW))
  obtain ⟨ag, cg, rfl, hcg, hgs⟩ := hg.shape intF
  have hgp : 0 < g.length := List.length_pos_iff.2 hgo.ne
  obtain ⟨bg, og, rfl, hbg, hgc⟩ := hgs hgp
  have HGC : Hid (∀ W, Below w.heap.size w W → ∀ i (hi : i < g.length), W.cell? ⟨bg, og + i, none⟩ = some (.int .i64 g[i])) := Lib.hid fun W hW i hi => by
    have := (hW.cell (p := ⟨bg, og + i * 1 + 0, none⟩) hbg).trans (hgc i hi 0 (by omega))
    simpa [intC] using this
  have HOK := Lib.hid hgo.ok
  have HAS := Lib.hid hgo.asc
  have hgl := hgo.len
  obtain ⟨ng, hng⟩ : ∃ n, n = g.length := ⟨_, rfl⟩
  have HNG := Lib.hid hng
  rw [← hng] at hcg hgl hgp ⊢
  obtain ⟨w0, hw0⟩ : ∃ W, W = w.alloc (.cells #[vl] 27) := ⟨_, rfl⟩
  have HB0 : Hid (Below w.heap.size w w0) := Lib.hid (by rw [hw0]; exact below_alloc _ _)
  have hx0 : w0.heap[w.heap.size]? = some (.cells #[vl] 27 (0, 0)) := by rw [hw0]; exact heap_alloc_new _ _
  have s0 := obj_cell hx0 0
  simp at s0
  clear h hgo hl hg hng hgs hgc hx0
  go_enter Try.func24, Try.ntmps24
  go_upto_region 1 with fail
  rw [← hw0]
  clear hw0
  go_wp2_with fail
  refine (HCK.out _ HB0.out).mono ?_
  rintro e w1 ⟨rfl, hb1⟩
  have HB1 := Lib.hid (HB0.out.trans (hb1.mono HB0.out.size))
  have hgz : ((ng : Int) == 0) = false := beq_eq_false_iff_ne.2 (by omega)
  clear hb1 s0 HCK HB0
  go_wp2
  go_loopw [15] (fun iv wr => ∃ i : Nat, iv = .int .i64 (i : Int) ∧ i ≤ ng ∧ w1 = wr) (fun iv _ => ng - (RowKit.intOf iv).toNat)
  case atStart => exact ⟨0, rfl, by omega, rfl⟩
  case round =>
    obtain ⟨i, rfl, hi, rfl⟩ := hrel
    by_cases hil : i < ng
    · have hilg : i < g.length := by rw [← HNG.out]; exact hil
      have c0 := HGC.out _ HB1.out i hilg
      have hr := HOK.out _ (List.getElem_mem hilg)
      have hwi : IntKind.i64.wrap ((i : Int) + 1) = (i : Int) + 1 := IntWalk.i64_in _ (by omega)
      have hi0 : (0 : Int) ≤ (i : Int) := by omega
      have hi1 : (i : Int) < (ng : Int) := by omega
      by_cases hz : i = 0
      · subst hz
        rw [Nat.add_zero] at c0
        generalize g[0] = a at c0 hr
        go_wp2_with fail
        refine (cswithin_yes _ hr.1 hr.2).mono ?_
        rintro e w' ⟨rfl, rfl⟩
        go_wp2
        go_roundw
        case rel => exact ⟨1, by first | rfl | go_num, by omega, by first | exact trivial | rfl⟩
        case measure => simp [RowKit.intOf]; omega
      · obtain ⟨k, rfl⟩ : ∃ k, i = k + 1 := ⟨i - 1, by omega⟩
        have c1 := HGC.out _ HB1.out k (by omega)
        have hlt : g[k] < g[k + 1] := List.pairwise_iff_getElem.1 HAS.out k (k + 1) (by omega) hilg (by omega)
        generalize g[k + 1] = a at c0 hr hlt
        generalize g[k] = b at c1 hlt
        have hge : ¬ a ≤ b := by omega
        have hpos : (0 : Int) < ((k + 1 : Nat) : Int) := by omega
        have hws : IntKind.i64.wrap (((k + 1 : Nat) : Int) - 1) = (k : Int) := by rw [show ((k + 1 : Nat) : Int) - 1 = (k : Int) by omega]; exact IntWalk.i64_in _ (by omega)
        have hk0 : (0 : Int) ≤ (k : Int) := by omega
        have hk1 : (k : Int) < (ng : Int) := by omega
        clear hlt
        go_wp2_with fail
        refine (cswithin_yes _ hr.1 hr.2).mono ?_
        rintro e w' ⟨rfl, rfl⟩
        go_wp2
        go_roundw
        case rel => exact ⟨k + 1 + 1, by first | rfl | go_num, by omega, by first | exact trivial | rfl⟩
        case measure => simp [RowKit.intOf]; omega
    · obtain rfl : i = ng := by omega
      go_wp2
      go_ret
      exact ⟨rfl, HB1.out⟩

/-! ### The closure of Explain -/
theorem Try.infoDif : (Try.prog.info? 35).map (fun i => (i.zero, i.size, i.bytes)) = some (some (.agg #[.int .i64 0, .int .i64 0, .int .i64 0, .int .i64 0, .int .i64 0]), 5, 40) := by kernel_rfl
/-- A list of differences in a box. -/
structure DifAt (base bL : Nat) (ds : List Dif) (v : Value) (W : World) : Prop where
  box : W.heap[bL]? = some (.cells #[v] 29 (0, 0))
  own : W.ownsRow base 35 5 v ds.length (cellsL difC ds)
theorem DifAt.below {base bL : Nat} {ds : List Dif} {v : Value} {A B : World} (h : DifAt base bL ds v A) (hb : Below A.heap.size A B) : DifAt base bL ds v B := ⟨obj_below h.box hb, ownsRow_below h.own hb⟩
theorem KeepE.paid {base bL base2 : Nat} {ds : List Dif} {v : Value} {A M B : World} (h : DifAt base2 bL ds v A) (h1 : A.grownBy M v.ownBlock) (h2 : M.grownBy B (some bL)) (hb : bL < base) : KeepE base A B := by
  refine ⟨Nat.le_trans h1.size h2.size, fun b hb1 hb2 hno => ?_⟩
  have e1 : M.heap[b]? = A.heap[b]? := h1.block b hb2 fun e => by
    rcases h.own.2 with ⟨rfl, _⟩ | ⟨g, c, cur, rfl, _, hh, _⟩
    · simp [Value.ownBlock] at e
    · simp only [Value.ownBlock, Option.some.injEq] at e
      subst e
      exact hno _ _ hh
  exact (h2.block b (Nat.lt_of_lt_of_le hb2 h1.size) (fun e => by injection e with e; omega)).trans e1

set_option maxRecDepth 100000 in
set_option maxHeartbeats 4000000 in
theorem csExplainC_ok (m : Mut) (a b r own oth : Int) (base bL : Nat) (ds : List Dif) (v : Value) (w : World) (hL : DifAt base bL ds v w) (hbL : bL < base) (hb0 : base ≤ w.heap.size) (hlen : ds.length ≤ 1000000) (ho : -1000000000000000 ≤ own ∧ own ≤ 1000000000000000) (ht : -1000000000000000 ≤ oth ∧ oth ≤ 1000000000000000) :
    Calls Try.prog 27 #[.agg (mutC m).toArray, .int .i64 a, .int .i64 b, .int .i64 r, .int .i64 own, .int .i64 oth, .pointer (some ⟨bL, 0, none⟩)] w fun e w' => e = .returned (.tuple #[]) ∧ ∃ v' M, DifAt base bL (ds ++ (if own = oth then [] else [⟨m.kind, a, b, r, own - oth⟩])) v' w' ∧ w.grownBy M v.ownBlock ∧ M.grownBy w' (some bL) := by
  obtain ⟨i0, hi0, hz0, hz1, hz2⟩ := info_parts Try.infoDif
  obtain ⟨m0, m1, m2, m3⟩ := m
  simp only [mutC]
  obtain ⟨ao, cap, hv, hcap, -⟩ := owns_gen hL.own
  have HB1 := Lib.hid (below_alloc w (.cells #[.int .i64 m0, .int .i64 m1, .int .i64 m2, .int .i64 m3] 63))
  have hx := heap_alloc_new w (.cells #[.int .i64 m0, .int .i64 m1, .int .i64 m2, .int .i64 m3] 63)
  have hbx := hL.box
  have hLt := obj_lt hbx
  obtain ⟨bX, hbX⟩ : ∃ b, b = w.heap.size := ⟨_, rfl⟩
  obtain ⟨w1, hw1⟩ : ∃ W, W = w.alloc (.cells #[.int .i64 m0, .int .i64 m1, .int .i64 m2, .int .i64 m3] 63) := ⟨_, rfl⟩
  rw [← hw1] at HB1 hx
  rw [← hbX] at hx
  have HL1 : Hid (DifAt base bL ds v w1) := Lib.hid ⟨obj_below hbx HB1.out, ownsRow_below hL.own HB1.out⟩
  have x0 := obj_cell hx 0
  simp at x0
  have hwn : IntKind.i64.wrap (own - oth) = own - oth := IntWalk.i64_in _ (by omega)
  subst hv
  obtain ⟨news, hnews⟩ : ∃ n, n = (if own = oth then [] else [(⟨m0, a, b, r, own - oth⟩ : Dif)]) := ⟨_, rfl⟩
  rw [← hnews]
  have HNW := Lib.hid hnews
  clear hL hx hbx hnews
  go_enter Try.func27, Try.ntmps27
  go_upto_region 1 with fail
  rw [← hw1, ← hbX]
  clear hw1 hbX
  by_cases hz : own = oth
  · have hzb : (own != oth) = false := by rw [hz]; simp
    have HNN : Hid (news = []) := Lib.hid (by rw [HNW.out, if_pos hz])
    have HEND : Hid (∃ v' M, DifAt base bL (ds ++ news) v' w1 ∧ w.grownBy M (Value.slice ao ds.length cap).ownBlock ∧ M.grownBy w1 (some bL)) := Lib.hid ⟨_, w1, by rw [HNN.out, List.append_nil]; exact HL1.out, grownBy_below HB1.out, grownBy_refl _ _⟩
    clear hz
    go_wp2
    go_end0
    obtain ⟨v', M, h1, h2, h3⟩ := HEND.out
    first
      | exact ⟨rfl, v', M, h1, h2, h3⟩
      | exact ⟨rfl, ⟨v', h1⟩, M, h2, h3⟩
  · have hzb : (own != oth) = true := by simp [hz]
    have HNN : Hid (news = [⟨m0, a, b, r, own - oth⟩]) := Lib.hid (by rw [HNW.out, if_neg hz])
    clear hz
    have hl1 := HL1.out
    have u0 := obj_cell hl1.box 0
    have uf0 := obj_free hl1.box 0
    simp at u0
    have hown := hl1.own
    have hLt1 := obj_lt hl1.box
    have hsz : base ≤ w1.heap.size := Nat.le_trans hb0 HB1.out.size
    clear hl1
    go_wp2_with (at_builtin; refine wpList_append_own _ rfl _ _ 29 rfl base 35 i0 (.agg #[.int .i64 0, .int .i64 0, .int .i64 0, .int .i64 0, .int .i64 0]) 5 40 Try.underlying29 hi0 hz0 hz1 hz2 rfl (by decide) _ _ _ rfl (hown.alloc _) ⟨w1.heap.size, 0, none⟩ 1 1 (difC ⟨m0, a, b, r, own - oth⟩) rfl rfl (new_cells _ _ _ _ rfl) (difF.one _) (by unfold maxLen; omega) (by omega) (by simp; omega) ?_; intro v' w4 hown4 hgr4 _; (have HO4 := Lib.hid hown4); (have hbx4 := (hgr4.block bL (by simp; omega) (fun e => by have := ownBlock_le hown _ e.symm; omega)).trans (obj_below HL1.out.box (below_alloc w1 _))); (have u4 := obj_cell hbx4 0); (have uf4 := obj_free hbx4 0); (simp at u4); (obtain ⟨ao', cap', rfl, hcap', -⟩ := owns_gen hown4); (have HG4 := Lib.hid hgr4); (have HX4 := Lib.hid hbx4); clear hown4 hgr4 hbx4 u0 uf0)
    have hsn := cellsL_snoc difC ds ⟨m0, a, b, r, own - oth⟩
    have HEND : Hid (∃ v' M, DifAt base bL (ds ++ news) v' (w4.setCell ⟨bL, 0, none⟩ (.slice ao' (ds.length + 1) cap')) ∧ w.grownBy M (Value.slice ao ds.length cap).ownBlock ∧ M.grownBy (w4.setCell ⟨bL, 0, none⟩ (.slice ao' (ds.length + 1) cap')) (some bL)) := Lib.hid (by
      refine ⟨.slice ao' (ds.length + 1) cap', w4, ⟨?_, ?_⟩, grown_step (grownBy_below (HB1.out.trans ((below_alloc w1 _).mono HB1.out.size))) HG4.out, setCell_grown _ _⟩
      · simpa using obj_set HX4.out 0 (.slice ao' (ds.length + 1) cap')
      · rw [HNN.out]
        have h := HO4.out.kept (setCell_grown 0 (.slice ao' (ds.length + 1) cap')) (ownBlock_ne HO4.out bL hbL)
        rw [hsn] at h
        simpa using h)
    go_end0
    obtain ⟨v', M, h1, h2, h3⟩ := HEND.out
    first
      | exact ⟨rfl, v', M, h1, h2, h3⟩
      | exact ⟨rfl, ⟨v', h1⟩, M, h2, h3⟩

/-- Explain's state: the differences so far, the group as it was. -/
structure XI (w : World) (bL : Nat) (vg : Value) (g : List Int) (d : Int) (l : List Pst) (qs : List Qst) (W : World) : Prop where
  dif : ∃ v, DifAt (bL + 1) bL (difL d l qs) v W
  old : Below w.heap.size w W
  grp : ListAt intC 1 W vg g
  lo : w.heap.size ≤ bL
def ExPost (d : Int) (l : List Pst) (g : List Int) (w : World) (e : Ending) (w' : World) : Prop := ∃ v, e = .returned (.tuple #[v, .int .i64 0]) ∧ w'.ownsRow w.heap.size 35 5 v (difL d l (eachQ g (refsM l))).length (cellsL difC (difL d l (eachQ g (refsM l)))) ∧ Below w.heap.size w w'

set_option maxRecDepth 100000 in
set_option maxHeartbeats 4000000 in
theorem csExplain_right {l : List Pst} (h : LdgOk l) {g : List Int} (hgo : GrpOk g) (d : Int) (hd : 0 ≤ d ∧ d ≤ 36000) (vl vg : Value) (w : World) (hl : PstsAt w vl l) (hg : ListAt intC 1 w vg g) :
    Calls Try.prog 10 #[.agg #[vl], vg, .int .i64 d] w (ExPost d l g w) := by
  have HCK := Lib.hid (fun W (hW : Below w.heap.size w W) => csCheck_right h hgo vl vg W (hl.below hW) (hg.below hW))
  obtain ⟨w0, hw0⟩ : ∃ W, W = w.alloc (.cells #[vl] 27) := ⟨_, rfl⟩
  have HB0 : Hid (Below w.heap.size w w0) := Lib.hid (by rw [hw0]; exact below_alloc _ _)
  have HX0 : Hid (w0.heap[w.heap.size]? = some (.cells #[vl] 27 (0, 0))) := Lib.hid (by rw [hw0]; exact heap_alloc_new _ _)
  have hx0 := HX0.out
  have s0 := obj_cell hx0 0
  simp at s0
  have HL := Lib.hid hl
  have HGR := Lib.hid hg
  have HOK := Lib.hid h
  have HGO := Lib.hid hgo
  unfold ExPost
  clear h hgo hl hg hx0
  go_enter Try.func10, Try.ntmps10
  go_upto_region 1 with fail
  rw [← hw0]
  clear hw0
  go_wp2_with fail
  refine (HCK.out _ HB0.out).mono ?_
  rintro e w1 ⟨rfl, hb1⟩
  have HB1 := Lib.hid (HB0.out.trans (hb1.mono HB0.out.size))
  have HX1 := Lib.hid (obj_below HX0.out hb1)
  clear hb1 s0 HCK HB0 HX0
  go_wp2_with fail
  refine (cswithin_yes _ hd.1 hd.2).mono ?_
  rintro e w' ⟨rfl, rfl⟩
  obtain ⟨bL, hbL⟩ : ∃ b, b = w1.heap.size := ⟨_, rfl⟩
  obtain ⟨w2, hw2⟩ : ∃ W, W = w1.alloc (.cells #[.slice none 0 0] 29) := ⟨_, rfl⟩
  have HX2 : Hid (XI w bL vg g d l [] w2) := Lib.hid (by
    rw [hw2, hbL]
    exact ⟨⟨_, heap_alloc_new _ _, World.ownsRow_nil _ _ _ _⟩, HB1.out.alloc HB1.out.size _, (HGR.out.below HB1.out).below (below_alloc _ _), HB1.out.size⟩)
  have HS2 : Hid (w2.heap.size = bL + 1) := Lib.hid (by rw [hw2, hbL]; simp)
  have hx2 : w2.heap[w.heap.size]? = some (.cells #[vl] 27 (0, 0)) := by rw [hw2]; exact obj_below HX1.out (below_alloc _ _)
  have s2 := obj_cell hx2 0
  simp at s2
  go_upto_region 7 with fail
  rw [← hw2, ← hbL]
  clear hw2 hbL hx2 HX1 HB1
  have HEA := Lib.hid (cseach1_any HOK.out HGO.out d 27 (.pointer (some ⟨bL, 0, none⟩)) (enters_of Try.func27 (by kernel_rfl) rfl) vl vg w2 (HL.out.below HX2.out.old) (XI w bL vg g d l)
    (fun W hW => by
      obtain ⟨v, h1⟩ := HX2.out.dif
      exact ⟨⟨v, h1.below hW⟩, HX2.out.old.trans (hW.mono HX2.out.old.size), HX2.out.grp.below hW, HX2.out.lo⟩)
    (fun qs W hW => hW.grp)
    (fun qs W W' hW hb => by
      obtain ⟨v, h1⟩ := hW.dif
      exact ⟨⟨v, h1.below hb⟩, hW.old.trans (hb.mono hW.old.size), hW.grp.below hb, hW.lo⟩)
    (fun qs q W hq hW hsz => by
      obtain ⟨v, h1⟩ := hW.dif
      have hm := (mem_eachQ (hq.subset (by simp : q ∈ qs ++ [q]))).1
      have hql := hq.length_le
      have hel := eachQ_len (R := refsM l) HGO.out.len
      have hrl := refsM_len l
      have hdl := difL_len d l qs
      simp only [List.length_append, List.length_singleton] at hql
      have b1 := ownQ_bound (d := d) HOK.out.mem hm
      have b2 := othQ_bound (d := d) HOK.out.mem hm
      have hl4 := HOK.out.len
      refine (csExplainC_ok q.m q.a q.b q.r (ownQ d l q) (othQ d l q) (bL + 1) bL (difL d l qs) v W h1 (Nat.lt_succ_self _) (by have := HS2.out; omega) (by omega) (by omega) (by omega)).mono fun e W' hh => ?_
      obtain ⟨he, v', M, h2, h3, h4⟩ := hh
      have hk := KeepE.paid (base := w2.heap.size) h1 h3 h4 (by have := HS2.out; omega)
      have hD : difL d l (qs ++ [q]) = difL d l qs ++ (if ownQ d l q = othQ d l q then [] else [⟨q.m.kind, q.a, q.b, q.r, ownQ d l q - othQ d l q⟩]) := difL_snoc d l qs q
      refine ⟨he, ⟨⟨v', by rw [hD]; exact h2⟩, ?_, ?_, hW.lo⟩, hk⟩
      · have hM : Below w.heap.size w M := hW.old.grown h3 hW.old.size fun j e => by have := ownBlock_le h1.own j e; have := hW.lo; omega
        exact hM.grown h4 hM.size fun j e => by injection e with e; have := hW.lo; omega
      · exact HGR.out.below ((hW.old.grown h3 hW.old.size fun j e => by have := ownBlock_le h1.own j e; have := hW.lo; omega).grown h4 (Nat.le_trans hW.old.size h3.size) fun j e => by injection e with e; have := hW.lo; omega)))
  go_wp2_with fail
  refine HEA.out.mono ?_
  rintro e w3 ⟨rfl, hX3⟩
  obtain ⟨v3, hd3⟩ := hX3.dif
  have HO3 := Lib.hid (ownsRow_mono hd3.own (Nat.le_succ_of_le hX3.lo))
  have HB3 := Lib.hid hX3.old
  have t0 := obj_cell hd3.box 0
  simp at t0
  clear hX3 hd3
  go_wp2
  go_ret2
  exact ⟨_, rfl, HO3.out, HB3.out⟩

end Go.Proofs.Ytdbpbmejgdbppaa
