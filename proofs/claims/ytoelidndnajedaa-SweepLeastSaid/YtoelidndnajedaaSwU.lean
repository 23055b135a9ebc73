/- The statements' rules, and the example of the chapter. -/
import Derived.Test.YtoelidndnajedaaSwS
import Derived.Test.YtoelidndnajedaaSwT
import Derived.Test.YtoelidndnajedaaAcBa
import Derived.Test.YtoelidndnajedaaAcSn
set_option linter.unusedSimpArgs false
set_option linter.unusedVariables false
namespace Go.Proofs.Ytoelidndnajedaa
open Go.RowKit Go.Lib Go.Proofs

theorem Try.infoKeep : (Try.prog.info? 50).map (fun i => (i.zero, i.size, i.bytes)) = some (some (.agg #[.int .i64 0, .int .i64 0, .int .i64 0]), 3, 24) := by kernel_rfl

theorem listAt_box {α : Type} {f : α → List Value} {m : Nat} (hf : Fields f m) {W : World} {b : Nat} {cs : Array Value} {T : TypeId} (h : W.heap[b]? = some (.cells cs T (0, 0))) (l : List α) (hcs : cs.toList = cellsL f l) (n c : Nat) (hn : n = l.length) (hc : n ≤ c) : ListAt f m W (.slice (some ⟨b, 0, none⟩) n c) l := by
  subst hn
  refine ⟨cellsL_len hf l, _, c, rfl, hc, Or.inr ⟨b, 0, rfl, obj_lt h, fun j _ => ?_⟩⟩
  rw [Nat.zero_add, obj_cell h j, ← hcs, Array.getElem?_toList]

theorem index_three (W : World) : (Instr.index 62 (.agg #[.int .i64 2, .int .i64 3, .int .i64 7]) (.int .i64 0)).run Try.prog W = .ok (.int .i64 2) W ∧ (Instr.index 62 (.agg #[.int .i64 2, .int .i64 3, .int .i64 7]) (.int .i64 1)).run Try.prog W = .ok (.int .i64 3) W ∧ (Instr.index 62 (.agg #[.int .i64 2, .int .i64 3, .int .i64 7]) (.int .i64 2)).run Try.prog W = .ok (.int .i64 7) W := ⟨by kernel_rfl, by kernel_rfl, by kernel_rfl⟩

/-- What Keeps hands back. -/
def KeepsPost (tb : Nat) (w : World) (e : Ending) (w' : World) : Prop := ∃ (v : Value) (ks : List Kp), e = .returned v ∧ KeepsUp 3 ks ∧ w'.ownsRow w.heap.size 50 3 v ks.length (cellsL kpC ks) ∧ SI w tb w'

set_option maxRecDepth 100000 in
set_option maxHeartbeats 8000000 in
theorem sKeeps_any (tb : Nat) (w : World) (ht : SrcAt w tb) : Calls Try.prog 11 #[.pointer (some ⟨tb, 0, none⟩)] w (KeepsPost tb w) := by
  obtain ⟨i0, hi0, hz0, hz1, hz2⟩ := info_parts Try.infoKeep
  have HS := Lib.hid (si_start ht)
  have HN := Lib.hid (fun W (h : SI w tb W) => n_in h 4 (by omega) (by omega))
  clear ht
  go_enter Try.func11, Try.ntmps11
  go_wp2
  go_loopw [3, 8] (fun v iv wr => ∃ (ks : List Kp) (j : Nat) (z : Int), iv = .int .i64 z ∧ ((z = 0 ∧ j = 0) ∨ (z = 1 ∧ j = 1) ∨ (z = 2 ∧ j = 2) ∨ (z = 3 ∧ j = 3)) ∧ KeepsUp j ks ∧ wr.ownsRow w.heap.size 50 3 v ks.length (cellsL kpC ks) ∧ SI w tb wr) (fun _ iv _ => 3 - (RowKit.intOf iv).toNat)
  case atStart => exact ⟨[], 0, 0, rfl, Or.inl ⟨rfl, rfl⟩, keepsUp_zero, World.ownsRow_nil _ _ _ _, HS.out⟩
  case round =>
    obtain ⟨ks, j, z, rfl, hj, hku, hown, hsi⟩ := hrel
    have HKU := Lib.hid hku
    have hkl := hku.len
    have HSI := Lib.hid hsi
    clear hku hsi
    have hix0 := fun W => (index_three W).1
    have hix1 := fun W => (index_three W).2.1
    have hix2 := fun W => (index_three W).2.2
    rcases hj with ⟨rfl, rfl⟩ | ⟨rfl, rfl⟩ | ⟨rfl, rfl⟩ | ⟨rfl, rfl⟩
    iterate 3
      go_wp2_with fail
      with_reducible refine (HN.out _ HSI.out).mono ?_
      rintro e w2 ⟨r, rfl, r0, r1, hi2, hg2⟩
      have hown2 := hown.kept hg2 (ownBlock_ne hown tb hi2.lt)
      have HI2 := Lib.hid hi2
      clear hi2 hg2 hown HSI
      by_cases hr : 0 < r
      case neg =>
        go_wp2
        go_roundw
        case rel => first | exact ⟨ks, 1, 1, (by first | rfl | go_num), (by omega), HKU.out.skip, hown2, HI2.out⟩ | exact ⟨ks, 2, 2, (by first | rfl | go_num), (by omega), HKU.out.skip, hown2, HI2.out⟩ | exact ⟨ks, 3, 3, (by first | rfl | go_num), (by omega), HKU.out.skip, hown2, HI2.out⟩
        case measure => simp [RowKit.intOf] <;> omega
      case pos =>
        go_wp2_with fail
        with_reducible refine Calls.mono (pick_in _ [0, 5, 80] _ _ rfl HI2.out (by simp) (by simp) _ rfl _ (by simp)) ?_
        rintro e w3 ⟨lo, rfl, hlo, hi3, hg3⟩
        have hown3 := (hown2.alloc (.cells #[.int .i64 0, .int .i64 5, .int .i64 80] 3)).kept hg3 (ownBlock_ne hown2 tb hi3.lt)
        have HI3 := Lib.hid hi3
        have hl0 : 0 ≤ lo ∧ lo ≤ 80 := by simp at hlo; omega
        clear hi3 hg3 hown2 HI2 hlo
        go_wp2_with fail
        with_reducible refine Calls.mono (pick_in _ [0, 20, 300] _ _ rfl HI3.out (by simp) (by simp) _ rfl _ (by simp)) ?_
        rintro e w4 ⟨d, rfl, hd, hi4, hg4⟩
        have hown4 := (hown3.alloc (.cells #[.int .i64 0, .int .i64 20, .int .i64 300] 3)).kept hg4 (ownBlock_ne hown3 tb hi4.lt)
        have HI4 := Lib.hid hi4
        have hd0 : 0 ≤ d ∧ d ≤ 300 := by simp at hd; omega
        have hle4 := hi4.old.size
        clear hi4 hg4 hown3 HI3 hd
        go_wp2_with (at_builtin; refine wpList_append_own _ rfl _ _ 30 rfl w.heap.size 50 i0 (.agg #[.int .i64 0, .int .i64 0, .int .i64 0]) 3 24 Try.underlying30 hi0 hz0 hz1 hz2 rfl (by decide) _ _ _ rfl (hown4.alloc _) ⟨w4.heap.size, 0, none⟩ 1 1 (kpC ⟨_, lo, lo + d⟩) rfl rfl (new_cells _ _ _ _ rfl) (kpF.one _) (by unfold maxLen; omega) (by omega) (by simp; omega) ?_; intro v' w5 hown5 hgr5 _)
        go_roundw
        case rel =>
          have hgr6 := (HI4.out.alloc _).grown hgr5 fun r hr => ownBlock_le hown4 r hr
          rw [cellsL_snoc] at hown5
          first
            | exact ⟨ks ++ [⟨2, lo, lo + d⟩], 1, 1, (by first | rfl | go_num), (by omega), HKU.out.add (by rfl) (by omega) (by omega) (by omega) (by omega) (by omega), (by simpa using hown5), hgr6⟩
            | exact ⟨ks ++ [⟨3, lo, lo + d⟩], 2, 2, (by first | rfl | go_num), (by omega), HKU.out.add (by rfl) (by omega) (by omega) (by omega) (by omega) (by omega), (by simpa using hown5), hgr6⟩
            | exact ⟨ks ++ [⟨7, lo, lo + d⟩], 3, 3, (by first | rfl | go_num), (by omega), HKU.out.add (by rfl) (by omega) (by omega) (by omega) (by omega) (by omega), (by simpa using hown5), hgr6⟩
        case measure => simp [RowKit.intOf] <;> omega
    · go_wp2
      go_ret
      exact ⟨_, ks, rfl, HKU.out, hown, HSI.out⟩

/-- A world within poor: the result's place, the account in a box. -/
structure PoI (w : World) (bR bx : Nat) (aU aV : Option Addr) (nU cU nV cV : Nat) (W : World) : Prop where
  old : Below w.heap.size w W
  box : W.heap[bx]? = some (.cells #[.int .i64 0, .slice aU nU cU, .slice aV nV cV] 28 (0, 0))
  res : W.heap[bR]? = some (.cells #[.int .i64 0, .slice none 0 0, .slice none 0 0] 28 (0, 0))
  subs : SubsAt W (.slice aU nU cU) poorA.subs
  ents : EntsAt W (.slice aV nV cV) poorA.ents
  lo : w.heap.size ≤ bR

set_option maxRecDepth 100000 in
set_option maxHeartbeats 8000000 in
theorem poor24_any (w : World) : Calls Try.prog 56 #[] w fun e w' => ∃ (aU aV : Option Addr) (cU cV : Nat), e = .returned (.agg #[.int .i64 0, .slice aU 3 cU, .slice aV 1 cV]) ∧ SubsAt w' (.slice aU 3 cU) poorA.subs ∧ EntsAt w' (.slice aV 1 cV) poorA.ents ∧ Below w.heap.size w w' := by
  have HB0 := Lib.hid (below2 w (.cells #[.int .i64 0, .slice none 0 0, .slice none 0 0] 28) (.cells #[.int .i64 1, .int .i64 2, .int .i64 3] 3))
  have HR0 := Lib.hid (alloc1_at w (.cells #[.int .i64 0, .slice none 0 0, .slice none 0 0] 28) (.cells #[.int .i64 1, .int .i64 2, .int .i64 3] 3))
  have HOP : Hid (Calls Try.prog 28 #[.slice (some ⟨w.heap.size + 1, 0, none⟩) 3 3, .int .i64 0] ((w.alloc (.cells #[.int .i64 0, .slice none 0 0, .slice none 0 0] 28)).alloc (.cells #[.int .i64 1, .int .i64 2, .int .i64 3] 3)) fun e w' => ∃ (aS aE : Option Addr) (cS cE : Nat), e = .returned (.tuple #[.agg #[.int .i64 0, .slice aS 3 cS, .slice aE 0 cE], .int .i64 0]) ∧ SubsAt w' (.slice aS 3 cS) poor0.subs ∧ EntsAt w' (.slice aE 0 cE) poor0.ents ∧ Below (w.heap.size + 1 + 1) ((w.alloc (.cells #[.int .i64 0, .slice none 0 0, .slice none 0 0] 28)).alloc (.cells #[.int .i64 1, .int .i64 2, .int .i64 3] 3)) w') := Lib.hid (by
    have h := raOpen_any (.slice (some ⟨w.heap.size + 1, 0, none⟩) 3 3) [1, 2, 3] 0 ((w.alloc (.cells #[.int .i64 0, .slice none 0 0, .slice none 0 0] 28)).alloc (.cells #[.int .i64 1, .int .i64 2, .int .i64 3] 3)) (nums_box (alloc2_at w _ _) [1, 2, 3] rfl 3 3 rfl (by omega)) (by simp)
    rw [poor_open] at h
    refine h.mono ?_
    rintro e w' ⟨su, en, h1, h2, h3, h4⟩
    obtain ⟨aS, cS, rfl, -, -⟩ := h2.shape
    obtain ⟨aE, cE, rfl, -, -⟩ := entsAt_shape h3
    exact ⟨aS, aE, cS, cE, h1, h2, h3, by simpa using h4⟩)
  go_enter Try.func56, Try.ntmps56
  go_wp2_with fail
  refine (HOP.out).mono ?_
  rintro e w1 ⟨aS, aE, cS, cE, rfl, hs1, he1, hb1⟩
  have HB1 := Lib.hid (HB0.out.trans (hb1.mono (by omega)))
  have HR1 : Hid (w1.heap[w.heap.size]? = some (.cells #[.int .i64 0, .slice none 0 0, .slice none 0 0] 28 (0, 0))) := Lib.hid ((hb1.block _ (by omega)).trans HR0.out)
  have HS1 := Lib.hid hs1
  have HE1 := Lib.hid he1
  clear hs1 he1 hb1 HOP HB0 HR0
  go_upto_region 2 with fail
  obtain ⟨w2, hw2⟩ : ∃ w2, w2 = w1.alloc (.cells #[.int .i64 0, .slice aS 3 cS, .slice aE 0 cE] 28) := ⟨_, rfl⟩
  obtain ⟨bx, hbx⟩ : ∃ bx, bx = w1.heap.size := ⟨_, rfl⟩
  obtain ⟨bR, hbR⟩ : ∃ bR, bR = w.heap.size := ⟨_, rfl⟩
  have HX2 : Hid (w2.heap[bx]? = some (.cells #[.int .i64 0, .slice aS 3 cS, .slice aE 0 cE] 28 (0, 0))) := Lib.hid (by rw [hw2, hbx]; exact heap_alloc_new _ _)
  have HB2 : Hid (Below w.heap.size w w2) := Lib.hid (by rw [hw2]; exact HB1.out.alloc HB1.out.size _)
  have HR2 : Hid (w2.heap[bR]? = some (.cells #[.int .i64 0, .slice none 0 0, .slice none 0 0] 28 (0, 0))) := Lib.hid (by rw [hw2, hbR]; exact obj_below HR1.out (below_alloc _ _))
  have HS2 : Hid (SubsAt w2 (.slice aS 3 cS) poor0.subs) := Lib.hid (by rw [hw2]; exact HS1.out.below (below_alloc _ _))
  have HE2 : Hid (EntsAt w2 (.slice aE 0 cE) poor0.ents) := Lib.hid (by rw [hw2]; exact HE1.out.below (below_alloc _ _))
  have hlt : bR < bx := by rw [hbR, hbx]; exact obj_lt HR1.out
  have HLO : Hid (w.heap.size ≤ bR ∧ w.heap.size ≤ bx) := Lib.hid (by omega)
  rw [← hw2, ← hbx, ← hbR]
  clear hw2 hbx hbR HB1 HR1 HS1 HE1
  obtain ⟨J, hJ⟩ : ∃ J, J = fun W : World => Below w2.heap.size w2 W := ⟨_, rfl⟩
  have HJO : Hid (∀ W, J W → Below w2.heap.size w2 W) := Lib.hid fun W hW => by rw [hJ] at hW; exact hW
  have HJI : Hid (∀ W, Below w2.heap.size w2 W → J W) := Lib.hid fun W hW => by rw [hJ]; exact hW
  have HJD : Hid (∀ W, J W → J W.drew) := Lib.hid fun W hW => HJI.out _ ((HJO.out W hW).drew)
  have HJ0 : Hid (J w2) := Lib.hid (HJI.out _ (Below.refl _ _))
  have HCL : Hid (∀ W, J W → ∀ i, W.cell? ⟨bx, i, none⟩ = #[.int .i64 0, .slice aS 3 cS, .slice aE 0 cE][i]?) := Lib.hid fun W hW i => obj_cell (obj_below HX2.out (HJO.out W hW)) i
  have HFR : Hid (∀ W, J W → ∀ i, W.frozen? ⟨bx, i, none⟩ = false) := Lib.hid fun W hW i => obj_free (obj_below HX2.out (HJO.out W hW)) i
  have HC1 : Hid (∀ W, J W → Calls Try.prog 15 #[.agg #[.int .i64 0, .slice aS 3 cS, .slice aE 0 cE], .int .i64 0, .int .i64 0, .int .i64 1, .int .i64 10, .int .i64 0] W fun e w' => e = .returned (.agg #[.int .i64 1, .int .i64 0, .int .i64 0, .int .i64 1, .int .i64 10, .int .i64 0]) ∧ J w' ∧ Below W.heap.size W w') := Lib.hid fun W hW =>
    (raNext_any [] 0 (.slice aS 3 cS) (.slice aE 0 cE) 0 0 1 10 0 W (HE2.out.below (HJO.out W hW)) (by simp) (by decide) (by decide)).mono fun e w' g => ⟨g.1, HJI.out _ ((HJO.out W hW).trans (g.2.mono (HJO.out W hW).size)), g.2⟩
  have HC2 : Hid (∀ W, J W → Calls Try.prog 14 #[.agg #[.int .i64 0, .slice aS 3 cS, .slice aE 0 cE], .agg #[.int .i64 1, .int .i64 0, .int .i64 0, .int .i64 1, .int .i64 10, .int .i64 0]] W fun e w' => ∃ (aU aV : Option Addr) (nU cU nV cV : Nat), e = .returned (.tuple #[.agg #[.int .i64 0, .slice aU nU cU, .slice aV nV cV], .int .i64 0]) ∧ SubsAt w' (.slice aU nU cU) poorA.subs ∧ EntsAt w' (.slice aV nV cV) poorA.ents ∧ J w' ∧ Below W.heap.size W w') := Lib.hid fun W hW => by
    have h := raPost_any poor0 ⟨1, 0, 0, 1, 10, 0⟩ (.slice aS 3 cS) (.slice aE 0 cE) W (HS2.out.below (HJO.out W hW)) (HE2.out.below (HJO.out W hW)) (by decide) (by decide)
    rw [poor_post] at h
    refine h.mono ?_
    rintro e w' ⟨su, en, h1, h2, h3, h4⟩
    obtain ⟨aU, cU, rfl, -, -⟩ := h2.shape
    obtain ⟨aV, cV, rfl, -, -⟩ := entsAt_shape h3
    exact ⟨aU, aV, _, cU, _, cV, h1, h2, h3, HJI.out _ ((HJO.out W hW).trans (h4.mono (HJO.out W hW).size)), h4⟩
  have HEND : Hid (∀ W (aU aV : Option Addr) (nU cU nV cV : Nat), J W → SubsAt W (.slice aU nU cU) poorA.subs → EntsAt W (.slice aV nV cV) poorA.ents → PoI w bR bx aU aV nU cU nV cV (put3 W bx (.int .i64 0) (.slice aU nU cU) (.slice aV nV cV))) := Lib.hid fun W aU aV nU cU nV cV hW h1 h2 => by
    have hb := HJO.out W hW
    have hg := put3_grown W bx (.int .i64 0) (.slice aU nU cU) (.slice aV nV cV)
    have hl := lone_acc (obj_below HX2.out hb)
    have hr := obj_below HR2.out hb
    exact ⟨put3_below (HB2.out.trans (hb.mono HB2.out.size)) HLO.out.2 _ _ _, put3_at (obj_below HX2.out hb) rfl _ _ _, (hg.block _ (obj_lt hr) (by simp; omega)).trans hr, h1.keep hl hg, h2.keep hl hg, HLO.out.1⟩
  have egN := enters_of Try.func15 (by kernel_rfl) rfl
  have egP := enters_of Try.func14 (by kernel_rfl) rfl
  clear hJ
  obtain ⟨P, hP⟩ : ∃ P : Nat → Value → World → Prop, P = fun j v W => match j with | 0 => (v = .agg #[.int .i64 0, .slice aS 3 cS, .slice aE 0 cE]) | 1 => (v = .agg #[.int .i64 0, .slice aS 3 cS, .slice aE 0 cE]) | 2 => (v = .agg #[.int .i64 1, .int .i64 0, .int .i64 0, .int .i64 1, .int .i64 10, .int .i64 0]) | 3 => (∃ aU aV nU cU nV cV, v = .tuple #[.agg #[.int .i64 0, .slice aU nU cU, .slice aV nV cV], .int .i64 0] ∧ SubsAt W (.slice aU nU cU) poorA.subs ∧ EntsAt W (.slice aV nV cV) poorA.ents) | 4 => (∃ aU aV nU cU nV cV, v = .tuple #[.agg #[.int .i64 0, .slice aU nU cU, .slice aV nV cV], .int .i64 0] ∧ SubsAt W (.slice aU nU cU) poorA.subs ∧ EntsAt W (.slice aV nV cV) poorA.ents) | 5 => (∃ aU aV nU cU nV cV, v = .agg #[.int .i64 0, .slice aU nU cU, .slice aV nV cV] ∧ SubsAt W (.slice aU nU cU) poorA.subs ∧ EntsAt W (.slice aV nV cV) poorA.ents) | 6 => (v = .int .i64 0) | _ => True := ⟨_, rfl⟩
  have HPI0 : Hid (∀ v W, P 0 v W ↔ (v = .agg #[.int .i64 0, .slice aS 3 cS, .slice aE 0 cE])) := Lib.hid fun v W => by rw [hP] <;> exact Iff.rfl
  have HPI1 : Hid (∀ v W, P 1 v W ↔ (v = .agg #[.int .i64 0, .slice aS 3 cS, .slice aE 0 cE])) := Lib.hid fun v W => by rw [hP] <;> exact Iff.rfl
  have HPI2 : Hid (∀ v W, P 2 v W ↔ (v = .agg #[.int .i64 1, .int .i64 0, .int .i64 0, .int .i64 1, .int .i64 10, .int .i64 0])) := Lib.hid fun v W => by rw [hP] <;> exact Iff.rfl
  have HPI3 : Hid (∀ v W, P 3 v W ↔ (∃ aU aV nU cU nV cV, v = .tuple #[.agg #[.int .i64 0, .slice aU nU cU, .slice aV nV cV], .int .i64 0] ∧ SubsAt W (.slice aU nU cU) poorA.subs ∧ EntsAt W (.slice aV nV cV) poorA.ents)) := Lib.hid fun v W => by rw [hP] <;> exact Iff.rfl
  have HPI4 : Hid (∀ v W, P 4 v W ↔ (∃ aU aV nU cU nV cV, v = .tuple #[.agg #[.int .i64 0, .slice aU nU cU, .slice aV nV cV], .int .i64 0] ∧ SubsAt W (.slice aU nU cU) poorA.subs ∧ EntsAt W (.slice aV nV cV) poorA.ents)) := Lib.hid fun v W => by rw [hP] <;> exact Iff.rfl
  have HPI5 : Hid (∀ v W, P 5 v W ↔ (∃ aU aV nU cU nV cV, v = .agg #[.int .i64 0, .slice aU nU cU, .slice aV nV cV] ∧ SubsAt W (.slice aU nU cU) poorA.subs ∧ EntsAt W (.slice aV nV cV) poorA.ents)) := Lib.hid fun v W => by rw [hP] <;> exact Iff.rfl
  have HPI6 : Hid (∀ v W, P 6 v W ↔ (v = .int .i64 0)) := Lib.hid fun v W => by rw [hP] <;> exact Iff.rfl
  have HKP : Hid (∀ (j : Nat) v W W', Below W.heap.size W W' → P j v W → P j v W') := Lib.hid (by
    rw [hP]
    intro j v W W' hb h
    match j, h with
    | 0, h => exact h
    | 1, h => exact h
    | 2, h => exact h
    | 3, ⟨aU, aV, nU, cU, nV, cV, e, s0, s1⟩ => exact ⟨aU, aV, nU, cU, nV, cV, e, s0.below hb, s1.below hb⟩
    | 4, ⟨aU, aV, nU, cU, nV, cV, e, s0, s1⟩ => exact ⟨aU, aV, nU, cU, nV, cV, e, s0.below hb, s1.below hb⟩
    | 5, ⟨aU, aV, nU, cU, nV, cV, e, s0, s1⟩ => exact ⟨aU, aV, nU, cU, nV, cV, e, s0.below hb, s1.below hb⟩
    | 6, h => exact h
    | 7, _ => trivial
    | j + 8, _ => trivial)
  have HKL : Hid (∀ (j : Nat) v W W' b0, Lone W b0 → W.grownBy W' (some b0) → P j v W → P j v W') := Lib.hid (by
    rw [hP]
    intro j v W W' b0 hl hg h
    match j, h with
    | 0, h => exact h
    | 1, h => exact h
    | 2, h => exact h
    | 3, ⟨aU, aV, nU, cU, nV, cV, e, s0, s1⟩ => exact ⟨aU, aV, nU, cU, nV, cV, e, s0.keep hl hg, s1.keep hl hg⟩
    | 4, ⟨aU, aV, nU, cU, nV, cV, e, s0, s1⟩ => exact ⟨aU, aV, nU, cU, nV, cV, e, s0.keep hl hg, s1.keep hl hg⟩
    | 5, ⟨aU, aV, nU, cU, nV, cV, e, s0, s1⟩ => exact ⟨aU, aV, nU, cU, nV, cV, e, s0.keep hl hg, s1.keep hl hg⟩
    | 6, h => exact h
    | 7, _ => trivial
    | j + 8, _ => trivial)
  clear hP
  go_cut [] (fun wx => ∃ (aU aV : Option Addr) (nU cU nV cV : Nat), Hid (PoI w bR bx aU aV nU cU nV cV wx))
  case first =>
    refine wp_region_store [9, 10, 11, 12, 8, 13, 14] (slotS [9, 10, 11, 12, 8, 13, 14, 9999]) (readsS [9, 10, 11, 12, 8, 13, 14, 9999]) (RP [9, 10, 11, 12, 8, 13, 14, 9999] P) J (fun _ W => ∃ (aU aV : Option Addr) (nU cU nV cV : Nat), PoI w bR bx aU aV nU cU nV cV W) 7 8 [6] (by decide) (by kernel_rfl) (by kernel_rfl) (by kernel_rfl) (by kernel_rfl) (HJD.out _ HJ0.out) (fun j f q v W hq h => RP.upd hq h) ?_ ?_ ?_ ?_
    case refine_1 =>
      intro iq hiq hne f W hIW hdep0
      have hiq' : iq < 8 := hiq
      have hdep : ∀ j, j ≠ 7 → depB _ iq j = true → P j (f (slotS [9, 10, 11, 12, 8, 13, 14, 9999] j)) W := hdep0
      clear hdep0
      generalize ha1 : putsL _ [9, 10, 11, 12, 8, 13, 14] f = a1
      match iq, hiq', hne, hdep with
      | 0, _, _, hdep0 =>
        have E1 : a1.tmps[1]?.getD undef = .pointer (some ⟨bx, 0, none⟩) := by rw [← ha1]; exact (putsL_out2 _ _ _ _ (by decide)).trans rfl
        have v0 : W.cell? ⟨bx, 0, none⟩ = some (.int .i64 0) := by simpa using HCL.out W hIW 0
        have v1 : W.cell? ⟨bx, 1, none⟩ = some (.slice aS 3 cS) := by simpa using HCL.out W hIW 1
        have v2 : W.cell? ⟨bx, 2, none⟩ = some (.slice aE 0 cE) := by simpa using HCL.out W hIW 2
        exact wpOp_val rfl rfl (v := .agg #[.int .i64 0, .slice aS 3 cS, .slice aE 0 cE]) (w' := W) (by simp [execOp, go_sem, E1, v0, v1, v2]) ⟨hIW, fun _ h => h, _, by decide, rfl, RP.set ((HPI0.out _ _).2 rfl)⟩
      | 1, _, _, hdep0 =>
        have E1 : a1.tmps[1]?.getD undef = .pointer (some ⟨bx, 0, none⟩) := by rw [← ha1]; exact (putsL_out2 _ _ _ _ (by decide)).trans rfl
        have v0 : W.cell? ⟨bx, 0, none⟩ = some (.int .i64 0) := by simpa using HCL.out W hIW 0
        have v1 : W.cell? ⟨bx, 1, none⟩ = some (.slice aS 3 cS) := by simpa using HCL.out W hIW 1
        have v2 : W.cell? ⟨bx, 2, none⟩ = some (.slice aE 0 cE) := by simpa using HCL.out W hIW 2
        exact wpOp_val rfl rfl (v := .agg #[.int .i64 0, .slice aS 3 cS, .slice aE 0 cE]) (w' := W) (by simp [execOp, go_sem, E1, v0, v1, v2]) ⟨hIW, fun _ h => h, _, by decide, rfl, RP.set ((HPI1.out _ _).2 rfl)⟩
      | 2, _, _, hdep0 =>
        have hd1 := (HPI1.out _ _).1 (hdep0 1 (by decide) (by kernel_rfl))
        have E10 : a1.tmps[10]?.getD undef = .agg #[.int .i64 0, .slice aS 3 cS, .slice aE 0 cE] := by rw [← ha1]; exact (putsL_in2 _ _ _ _ (by decide) (show 10 < 16 from by decide)).trans hd1
        refine wpOp_call rfl rfl (n := 15) (vs := #[.agg #[.int .i64 0, .slice aS 3 cS, .slice aE 0 cE], .int .i64 0, .int .i64 0, .int .i64 1, .int .i64 10, .int .i64 0]) (by have := egN #[.agg #[.int .i64 0, .slice aS 3 cS, .slice aE 0 cE], .int .i64 0, .int .i64 0, .int .i64 1, .int .i64 10, .int .i64 0] W; simp [execOp, E10, resolve, invoke, go_sem] <;> exact this) ((HC1.out W hIW).mono fun e w' hh => (by obtain ⟨rfl, hJ', hb'⟩ := hh; exact ⟨_, rfl, (HPI2.out _ _).2 rfl, hJ', hb'⟩ : ∃ v, e = .returned v ∧ (P 2 v w' ∧ J w' ∧ Below W.heap.size W w'))) ?_
        rintro v w' ⟨hv, hI', hb'⟩
        exact ⟨hI', fun j h => HKP.out j _ _ _ hb' h, _, by decide, rfl, RP.set hv⟩
      | 3, _, _, hdep0 =>
        have hd0 := (HPI0.out _ _).1 (hdep0 0 (by decide) (by kernel_rfl))
        have hd2 := (HPI2.out _ _).1 (hdep0 2 (by decide) (by kernel_rfl))
        have E9 : a1.tmps[9]?.getD undef = .agg #[.int .i64 0, .slice aS 3 cS, .slice aE 0 cE] := by rw [← ha1]; exact (putsL_in2 _ _ _ _ (by decide) (show 9 < 16 from by decide)).trans hd0
        have E11 : a1.tmps[11]?.getD undef = .agg #[.int .i64 1, .int .i64 0, .int .i64 0, .int .i64 1, .int .i64 10, .int .i64 0] := by rw [← ha1]; exact (putsL_in2 _ _ _ _ (by decide) (show 11 < 16 from by decide)).trans hd2
        refine wpOp_call rfl rfl (n := 14) (vs := #[.agg #[.int .i64 0, .slice aS 3 cS, .slice aE 0 cE], .agg #[.int .i64 1, .int .i64 0, .int .i64 0, .int .i64 1, .int .i64 10, .int .i64 0]]) (by have := egP #[.agg #[.int .i64 0, .slice aS 3 cS, .slice aE 0 cE], .agg #[.int .i64 1, .int .i64 0, .int .i64 0, .int .i64 1, .int .i64 10, .int .i64 0]] W; simp [execOp, E9, E11, resolve, invoke, go_sem] <;> exact this) ((HC2.out W hIW).mono fun e w' hh => (by obtain ⟨aU, aV, nU, cU, nV, cV, rfl, p0, p1, hJ', hb'⟩ := hh; exact ⟨_, rfl, (HPI3.out _ _).2 ⟨_, _, _, _, _, _, rfl, p0, p1⟩, hJ', hb'⟩ : ∃ v, e = .returned v ∧ (P 3 v w' ∧ J w' ∧ Below W.heap.size W w'))) ?_
        rintro v w' ⟨hv, hI', hb'⟩
        exact ⟨hI', fun j h => HKP.out j _ _ _ hb' h, _, by decide, rfl, RP.set hv⟩
      | 4, _, _, hdep0 =>
        have hd3 := (HPI3.out _ _).1 (hdep0 3 (by decide) (by kernel_rfl))
        obtain ⟨aU, aV, nU, cU, nV, cV, q3, r3_0, r3_1⟩ := hd3
        have E12 : a1.tmps[12]?.getD undef = .tuple #[.agg #[.int .i64 0, .slice aU nU cU, .slice aV nV cV], .int .i64 0] := by rw [← ha1]; exact (putsL_in2 _ _ _ _ (by decide) (show 12 < 16 from by decide)).trans q3
        exact wpOp_val rfl rfl (v := .tuple #[.agg #[.int .i64 0, .slice aU nU cU, .slice aV nV cV], .int .i64 0]) (w' := W) (by simp [execOp, go_sem, E12]) ⟨hIW, fun _ h => h, _, by decide, rfl, RP.set ((HPI4.out _ _).2 ⟨_, _, _, _, _, _, rfl, r3_0, r3_1⟩)⟩
      | 5, _, _, hdep0 =>
        have hd4 := (HPI4.out _ _).1 (hdep0 4 (by decide) (by kernel_rfl))
        obtain ⟨aU, aV, nU, cU, nV, cV, q4, r4_0, r4_1⟩ := hd4
        have E8 : a1.tmps[8]?.getD undef = .tuple #[.agg #[.int .i64 0, .slice aU nU cU, .slice aV nV cV], .int .i64 0] := by rw [← ha1]; exact (putsL_in2 _ _ _ _ (by decide) (show 8 < 16 from by decide)).trans q4
        exact wpOp_val rfl rfl (v := .agg #[.int .i64 0, .slice aU nU cU, .slice aV nV cV]) (w' := W) (by simp [execOp, go_sem, E8]) ⟨hIW, fun _ h => h, _, by decide, rfl, RP.set ((HPI5.out _ _).2 ⟨_, _, _, _, _, _, rfl, r4_0, r4_1⟩)⟩
      | 6, _, _, hdep0 =>
        have hd4 := (HPI4.out _ _).1 (hdep0 4 (by decide) (by kernel_rfl))
        obtain ⟨aU, aV, nU, cU, nV, cV, q4, r4_0, r4_1⟩ := hd4
        have E8 : a1.tmps[8]?.getD undef = .tuple #[.agg #[.int .i64 0, .slice aU nU cU, .slice aV nV cV], .int .i64 0] := by rw [← ha1]; exact (putsL_in2 _ _ _ _ (by decide) (show 8 < 16 from by decide)).trans q4
        exact wpOp_val rfl rfl (v := .int .i64 0) (w' := W) (by simp [execOp, go_sem, E8]) ⟨hIW, fun _ h => h, _, by decide, rfl, RP.set ((HPI6.out _ _).2 rfl)⟩
      | 7, _, hne, _ => exact absurd rfl hne
      | iq + 8, h, _, _ => exact absurd h (by omega)
    case refine_2 =>
      intro iq hiq hfr f W hI1 hdep0
      have hdep : ∀ j, j ≠ 7 → depB _ iq j = true → P j (f (slotS [9, 10, 11, 12, 8, 13, 14, 9999] j)) W := hdep0
      clear hdep0
      generalize ha1 : putsL _ [9, 10, 11, 12, 8, 13, 14] f = a1
      simp only [List.mem_cons, List.mem_nil_iff, or_false] at hfr
      rcases hfr with rfl
      · have hdep0 := hdep
        have hd4 := (HPI4.out _ _).1 (hdep0 4 (by decide) (by kernel_rfl))
        obtain ⟨aU, aV, nU, cU, nV, cV, q4, r4_0, r4_1⟩ := hd4
        have E8 : a1.tmps[8]?.getD undef = .tuple #[.agg #[.int .i64 0, .slice aU nU cU, .slice aV nV cV], .int .i64 0] := by rw [← ha1]; exact (putsL_in2 _ _ _ _ (by decide) (show 8 < 16 from by decide)).trans q4
        exact wpOp_val rfl rfl (v := .int .i64 0) (w' := W) (by simp [execOp, go_sem, E8]) ⟨rfl, _, by decide, rfl, RP.set ((HPI6.out _ _).2 rfl), hI1⟩
    case refine_3 =>
      intro f W hIW hdep0
      have hdep : ∀ j, j < 8 → j ≠ 7 → ([6] : List Nat).contains j = false → P j (f (slotS [9, 10, 11, 12, 8, 13, 14, 9999] j)) W := hdep0
      have HRP : Hid (∀ j W', (∀ v, P j v W → P j v W') → RP [9, 10, 11, 12, 8, 13, 14, 9999] P j f W → RP [9, 10, 11, 12, 8, 13, 14, 9999] P j f W') := Lib.hid fun j W' h1 h2 => h1 _ h2
      clear hdep0
      generalize ha1 : putsL _ [9, 10, 11, 12, 8, 13, 14] f = a1
      have E1 : a1.tmps[1]?.getD undef = .pointer (some ⟨bx, 0, none⟩) := by rw [← ha1]; exact (putsL_out2 _ _ _ _ (by decide)).trans rfl
      obtain ⟨aU, aV, nU, cU, nV, cV, q5, r5_0, r5_1⟩ := ((HPI5.out _ _).1 (hdep 5 (by decide) (by decide) (by decide)))
      have E13 : a1.tmps[13]?.getD undef = .agg #[.int .i64 0, .slice aU nU cU, .slice aV nV cV] := by rw [← ha1]; exact (putsL_in2 _ _ _ _ (by decide) (show 13 < 16 from by decide)).trans q5
      have p0 := HCL.out W hIW 0
      have p1 := HCL.out W hIW 1
      have p2 := HCL.out W hIW 2
      have f0 := HFR.out W hIW 0
      have f1 := HFR.out W hIW 1
      have f2 := HFR.out W hIW 2
      simp at p0 p1 p2
      exact wpOp_skip rfl rfl (w' := put3 W bx (.int .i64 0) (.slice aU nU cU) (.slice aV nV cV)) (by unfold put3; simp [execOp, go_sem, E1, E13, p0, p1, p2, f0, f1, f2]) ⟨rfl, ⟨aU, aV, nU, cU, nV, cV, HEND.out _ _ _ _ _ _ _ hIW r5_0 r5_1⟩, fun j h => HRP.out j _ (fun v h => HKL.out j v _ _ bx (lone_acc (obj_below HX2.out (HJO.out _ hIW))) (put3_grown _ _ _ _ _) h) h⟩
    case refine_4 =>
      intro f W hI1 hR
      simp only [putsL, List.foldl_cons, List.foldl_nil, Act.put, List.setIfInBounds_toArray, List.set_cons_zero, List.set_cons_succ]
      obtain ⟨aU, aV, nU, cU, nV, cV, hsw⟩ := hI1
      go_wp2
      go_meet
      exact ⟨aU, aV, nU, cU, nV, cV, Lib.hid hsw⟩
  case rest =>
    obtain ⟨aU, aV, nU, cU, nV, cV, HP⟩ := hcut
    clear HEND HC1 HC2 HCL HFR HJ0 HJD HJI HJO HX2 HB2 HR2 HS2 HE2
    have hbx := HP.out.box
    have b0 := obj_cell hbx 0
    have b1 := obj_cell hbx 1
    have b2 := obj_cell hbx 2
    have hrb := HP.out.res
    have s0 := obj_cell hrb 0
    have f0 := obj_free hrb 0
    have s1 := obj_cell hrb 1
    have f1 := obj_free hrb 1
    have s2 := obj_cell hrb 2
    have f2 := obj_free hrb 2
    simp at b0 b1 b2 s0 s1 s2
    obtain ⟨x1, x2, h1, -, -⟩ := HP.out.subs.shape
    injection h1 with e1 h1 e2
    obtain ⟨x3, x4, h2, -, -⟩ := entsAt_shape HP.out.ents
    injection h2 with e3 h2 e4
    subst e1 h1 e2 e3 h2 e4
    clear hbx hrb
    go_wp2
    show bodyPost Try.prog Try.f56 _ Exit.ret _ (put3 wc bR (.int .i64 0) (.slice aU _ cU) (.slice aV _ cV))
    have HG := Lib.hid (put3_grown wc bR (.int .i64 0) (.slice aU poorA.subs.length cU) (.slice aV poorA.ents.length cV))
    exact ret3 HP.out.res rfl _ _ _ (fun F hF => by
      have q0 := obj_cell hF 0
      have q1 := obj_cell hF 1
      have q2 := obj_cell hF 2
      simp [results, Try.results56, go_sem, q0, q1, q2]
      first | rfl | exact ⟨rfl, rfl⟩) rfl ⟨aU, aV, cU, cV, rfl, HP.out.subs.keep (lone_acc HP.out.res) HG.out, HP.out.ents.keep (lone_acc HP.out.res) HG.out, put3_below HP.out.old HP.out.lo _ _ _⟩

set_option maxRecDepth 100000 in
set_option maxHeartbeats 8000000 in
theorem sane24_true (w : World) : Calls Try.prog 18 #[] w fun e w' => e = .returned (.bool true) ∧ Below w.heap.size w w' := by
  have HPO := Lib.hid (poor24_any w)
  go_enter Try.func18, Try.ntmps18
  go_wp2_with fail
  refine (HPO.out).mono ?_
  rintro e w1 ⟨aU, aV, cU, cV, rfl, hs1, he1, hb1⟩
  have hba := below_alloc w1 (.cells #[.int .i64 2, .int .i64 8, .int .i64 8, .int .i64 3, .int .i64 8, .int .i64 8] 50)
  have HB2 := Lib.hid (hb1.trans (hba.mono hb1.size))
  have HSW : Hid (Calls Try.prog 16 #[.agg #[.int .i64 0, .slice aU 3 cU, .slice aV 1 cV], .slice (some ⟨w1.heap.size, 0, none⟩) 2 2, .int .i64 0] (w1.alloc (.cells #[.int .i64 2, .int .i64 8, .int .i64 8, .int .i64 3, .int .i64 8, .int .i64 8] 50)) fun e w' => ∃ (aX aY : Option Addr) (nX cX nY cY : Nat), e = .returned (.tuple #[.agg #[.int .i64 0, .slice aX nX cX, .slice aY nY cY], .int .i64 0]) ∧ SubsAt w' (.slice aX nX cX) poorB.subs ∧ EntsAt w' (.slice aY nY cY) poorB.ents ∧ Below (w1.alloc (.cells #[.int .i64 2, .int .i64 8, .int .i64 8, .int .i64 3, .int .i64 8, .int .i64 8] 50)).heap.size (w1.alloc (.cells #[.int .i64 2, .int .i64 8, .int .i64 8, .int .i64 3, .int .i64 8, .int .i64 8] 50)) w') := Lib.hid (by
    have h := swSweep_right poorA poorB poorK (.slice aU 3 cU) (.slice aV 1 cV) (.slice (some ⟨w1.heap.size, 0, none⟩) 2 2) 0 [⟨2, 0, 1, 2, 8, 0⟩, ⟨3, 0, 1, 3, 2, 0⟩] _ (hs1.below hba) (he1.below hba) (listAt_box kpF (heap_alloc_new w1 _) poorK rfl 2 2 rfl (by omega)) (by decide) (by rfl) (by rfl)
    refine h.mono ?_
    rintro e w' ⟨su, en, h1, h2, h3, h4⟩
    obtain ⟨aX, cX, rfl, -, -⟩ := h2.shape
    obtain ⟨aY, cY, rfl, -, -⟩ := entsAt_shape h3
    exact ⟨aX, aY, _, cX, _, cY, h1, h2, h3, h4⟩)
  clear hs1 he1 hb1 hba HPO
  go_wp2_with fail
  refine (HSW.out).mono ?_
  rintro e w2 ⟨aX, aY, nX, cX, nY, cY, rfl, hs2, he2, hb2⟩
  have HI : Hid (BxI w w2.heap.size poorB (.slice aX nX cX) (.slice aY nY cY) (w2.alloc (.cells #[.int .i64 0, .slice aX nX cX, .slice aY nY cY] 28))) := Lib.hid (by
    have hb3 := HB2.out.trans (hb2.mono HB2.out.size)
    exact ⟨hb3.alloc hb3.size _, heap_alloc_new _ _, hs2.below (below_alloc _ _), he2.below (below_alloc _ _), hb3.size⟩)
  have HB1 := Lib.hid (fun W (hW : BxI w w2.heap.size poorB (.slice aX nX cX) (.slice aY nY cY) W) => raBalance_any poorB (.slice aX nX cX) (.slice aY nY cY) 2 W hW.subs hW.ents (by decide) (by decide))
  rw [poor_bal2] at HB1
  have HB3 := Lib.hid (fun W (hW : BxI w w2.heap.size poorB (.slice aX nX cX) (.slice aY nY cY) W) => raBalance_any poorB (.slice aX nX cX) (.slice aY nY cY) 3 W hW.subs hW.ents (by decide) (by decide))
  rw [poor_bal3] at HB3
  simp only [show poorB.credit = 0 from rfl] at HB1 HB3
  have hbx := HI.out.box
  have u0 := obj_cell hbx 0
  have u1 := obj_cell hbx 1
  have u2 := obj_cell hbx 2
  simp [poorB] at u0 u1 u2
  clear hbx hs2 he2 hb2 HSW HB2
  go_wp2_with fail
  refine (HB1.out _ HI.out).mono ?_
  rintro e w6 ⟨rfl, hb6⟩
  have HB6 := Lib.hid (HI.out.below hb6)
  have hbx := HB6.out.box
  have v0 := obj_cell hbx 0
  have v1 := obj_cell hbx 1
  have v2 := obj_cell hbx 2
  simp [poorB] at v0 v1 v2
  clear hbx hb6 u0 u1 u2
  go_wp2_with fail
  refine (HB3.out _ HB6.out).mono ?_
  rintro e w7 ⟨rfl, hb7⟩
  have HB7 := Lib.hid (HB6.out.below hb7)
  clear hb7
  go_wp2
  go_ret
  exact ⟨rfl, HB7.out.old⟩

end Go.Proofs.Ytoelidndnajedaa
