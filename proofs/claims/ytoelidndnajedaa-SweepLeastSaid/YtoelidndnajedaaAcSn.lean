/- The statements' own example of an account. -/
import Derived.Test.YtoelidndnajedaaAcL
set_option linter.unusedSimpArgs false
set_option linter.unusedVariables false
namespace Go.Proofs.Ytoelidndnajedaa
open Go.RowKit Go.Lib Go.Proofs

/-- A world with an account in a box of its own. -/
structure BxI (w : World) (bA : Nat) (a : Acc) (su en : Value) (W : World) : Prop where
  old : Below w.heap.size w W
  box : W.heap[bA]? = some (.cells #[.int .i64 a.credit, su, en] 28 (0, 0))
  subs : SubsAt W su a.subs
  ents : EntsAt W en a.ents
  far : w.heap.size ≤ bA
theorem BxI.below {w : World} {bA : Nat} {a : Acc} {su en : Value} {A B : World} (h : BxI w bA a su en A) (hb : Below A.heap.size A B) : BxI w bA a su en B :=
  ⟨h.old.trans (hb.mono h.old.size), obj_below h.box hb, h.subs.below hb, h.ents.below hb, h.far⟩

def KeepB (A B : World) : Prop := ∀ (bx : Nat) (o : Obj), A.heap[bx]? = some o → B.heap[bx]? = some o
theorem keepB {A B : World} (h : Below A.heap.size A B) : KeepB A B := fun bx o ho => obj_below ho h

set_option maxRecDepth 100000 in
set_option maxHeartbeats 16000000 in
theorem sane23_true (w : World) : Calls Try.prog 25 #[] w fun e w' => e = .returned (.bool true) ∧ Below w.heap.size w w' := by
  have HB0 := Lib.hid (below_alloc w (.cells #[.int .i64 1, .int .i64 2] 3))
  have HOP : Hid (Calls Try.prog 27 #[.slice (some ⟨w.heap.size, 0, none⟩) 2 2, .int .i64 0] (w.alloc (.cells #[.int .i64 1, .int .i64 2] 3)) fun e w' => ∃ (aS aE : Option Addr) (cS cE : Nat), e = .returned (.tuple #[.agg #[.int .i64 0, .slice aS 2 cS, .slice aE 0 cE], .int .i64 0]) ∧ SubsAt w' (.slice aS 2 cS) exAcc.subs ∧ EntsAt w' (.slice aE 0 cE) exAcc.ents ∧ Below (w.alloc (.cells #[.int .i64 1, .int .i64 2] 3)).heap.size (w.alloc (.cells #[.int .i64 1, .int .i64 2] 3)) w') := Lib.hid (by
    have h := acOpen_any (.slice (some ⟨w.heap.size, 0, none⟩) 2 2) [1, 2] 0 (w.alloc (.cells #[.int .i64 1, .int .i64 2] 3)) (nums_box (heap_alloc_new w _) [1, 2] rfl 2 2 rfl (by omega)) (by simp)
    rw [ex_open] at h
    refine h.mono ?_
    rintro e w' ⟨su, en, h1, h2, h3, h4⟩
    obtain ⟨aS, cS, rfl, -, -⟩ := h2.shape
    obtain ⟨aE, cE, rfl, -, -⟩ := h3.shape
    exact ⟨aS, aE, cS, cE, h1, h2, h3, h4⟩)
  go_enter Try.func25, Try.ntmps25
  go_wp2_with fail
  refine (HOP.out).mono ?_
  rintro e w1 ⟨aS, aE, cS, cE, rfl, hs1, he1, hb1⟩
  have HI1 : Hid (BxI w w1.heap.size exAcc (.slice aS 2 cS) (.slice aE 0 cE) (w1.alloc (.cells #[.int .i64 0, .slice aS 2 cS, .slice aE 0 cE] 28))) := Lib.hid ⟨(HB0.out.trans (hb1.mono HB0.out.size)).alloc (HB0.out.trans (hb1.mono HB0.out.size)).size _, heap_alloc_new _ _, hs1.below (below_alloc _ _), he1.below (below_alloc _ _), (HB0.out.trans (hb1.mono HB0.out.size)).size⟩
  clear hs1 he1 hb1 HOP HB0
  go_upto_region 2 with fail
  obtain ⟨bA, hbA⟩ : ∃ bA, bA = w1.heap.size := ⟨_, rfl⟩
  rw [← hbA] at HI1 ⊢
  obtain ⟨w2, hw2⟩ : ∃ w2, w2 = w1.alloc (.cells #[.int .i64 0, .slice aS 2 cS, .slice aE 0 cE] 28) := ⟨_, rfl⟩
  rw [← hw2] at HI1 ⊢
  clear hbA hw2
  obtain ⟨I, hI⟩ : ∃ I, I = BxI w bA exAcc (.slice aS 2 cS) (.slice aE 0 cE) := ⟨_, rfl⟩
  have HI2 : Hid (I w2) := Lib.hid (by rw [hI]; exact HI1.out)
  have HIA : Hid (∀ W, I W → BxI w bA exAcc (.slice aS 2 cS) (.slice aE 0 cE) W) := Lib.hid fun W hW => by rw [hI] at hW; exact hW
  have HAI : Hid (∀ W, BxI w bA exAcc (.slice aS 2 cS) (.slice aE 0 cE) W → I W) := Lib.hid fun W hW => by rw [hI]; exact hW
  have HDR : Hid (∀ W, I W → I W.drew) := Lib.hid fun W hW => by rw [hI] at hW ⊢; exact hW.below (Below.refl _ _).drew
  have HAL : Hid (∀ W o, I W → I (W.alloc o)) := Lib.hid fun W o hW => by rw [hI] at hW ⊢; exact hW.below (below_alloc _ _)
  have HCL : Hid (∀ W, I W → ∀ i, W.cell? ⟨bA, i, none⟩ = #[.int .i64 0, .slice aS 2 cS, .slice aE 0 cE][i]?) := Lib.hid fun W hW i => by rw [hI] at hW; exact obj_cell hW.box i
  have HTS : Hid (∀ W, I W → bA < W.heap.size) := Lib.hid fun W hW => by rw [hI] at hW; exact obj_lt hW.box
  have HST : Hid (∀ (V : World) (bx : Nat) (v0 v1 v2 : Value), I V → bx ≠ bA → ∀ i, (((V.setCell ⟨bx, 0, none⟩ v0).setCell ⟨bx, 1, none⟩ v1).setCell ⟨bx, 2, none⟩ v2).cell? ⟨bA, i, none⟩ = #[.int .i64 0, .slice aS 2 cS, .slice aE 0 cE][i]?) := Lib.hid fun V bx v0 v1 v2 hV hne i => by
    rw [← HCL.out V hV i]
    unfold World.cell?
    simp only
    have := (put3_grown V bx v0 v1 v2).block bA (HTS.out V hV) (by simp; omega)
    unfold put3 at this
    rw [this]
  have HPUT : Hid (∀ (V : World) (bx : Nat) (x : Int) (aU aV : Option Addr) (nU cU nV cV : Nat), I V → V.heap[bx]? = some (.cells #[.int .i64 0, .slice none 0 0, .slice none 0 0] 28 (0, 0)) → bA < bx → I (put3 V bx (.int .i64 x) (.slice aU nU cU) (.slice aV nV cV))) := Lib.hid fun V bx x aU aV nU cU nV cV hV hx hlt => by
    rw [hI] at hV ⊢
    have hg := put3_grown V bx (.int .i64 x) (.slice aU nU cU) (.slice aV nV cV)
    have hl := lone_acc hx
    have hf := hV.far
    exact ⟨put3_below hV.old (by omega) _ _ _, (hg.block _ (obj_lt hV.box) (by simp; omega)).trans hV.box, hV.subs.keep hl hg, hV.ents.keep hl hg, hf⟩
  clear hI HI1
  go_cut [4] (fun c wx => c = .int .i64 61 ∧ Hid (I wx))
  case first =>
      have HNX : Hid (∀ W, I W → Calls Try.prog 42 #[.agg #[.int .i64 0, .slice aS 2 cS, .slice aE 0 cE], .int .i64 0, .int .i64 2, .int .i64 0, .int .i64 5, .int .i64 0] W fun e w' => e = .returned (.agg #[.int .i64 1, .int .i64 0, .int .i64 2, .int .i64 0, .int .i64 5, .int .i64 0]) ∧ I w' ∧ KeepB W w') := Lib.hid fun W hW =>
        (acNext_any [] 0 (.slice aS 2 cS) (.slice aE 0 cE) 0 2 0 5 0 W (HIA.out W hW).ents (by simp) (by decide) (by decide)).mono fun e w' h => ⟨h.1, HAI.out _ ((HIA.out W hW).below h.2), keepB h.2⟩
      have HPT : Hid (∀ W, I W → Calls Try.prog 35 #[.agg #[.int .i64 0, .slice aS 2 cS, .slice aE 0 cE], .agg #[.int .i64 1, .int .i64 0, .int .i64 2, .int .i64 0, .int .i64 5, .int .i64 0]] W fun e w' => e = .returned (.tuple #[.agg #[.int .i64 0, .slice none 0 0, .slice none 0 0], .int .i64 61]) ∧ I w' ∧ KeepB W w') := Lib.hid fun W hW => by
        have h := acPost_any exAcc ⟨1, 0, 2, 0, 5, 0⟩ (.slice aS 2 cS) (.slice aE 0 cE) W (HIA.out W hW).subs (HIA.out W hW).ents (by decide) (by decide)
        rw [ex_no] at h
        exact h.mono fun e w' h => ⟨h.1, HAI.out _ ((HIA.out W hW).below h.2), keepB h.2⟩
      have hnew := HI2.out
      have hcs := HCL.out _ hnew
      go_region_held3 (fun W => ∀ i, W.cell? ⟨bA, i, none⟩ = #[.int .i64 0, .slice aS 2 cS, .slice aE 0 cE][i]?)
        (first | with_reducible assumption | ((with_reducible refine HST.out _ _ _ _ _ hinv9 ?_); first | (have := HTS.out _ hinv8; omega) | (have := HTS.out _ hnew; omega)) | exact HCL.out _ (by with_reducible assumption) | exact HCL.out _ (HDR.out _ (by with_reducible assumption)) | exact HCL.out _ (HAL.out _ _ (by with_reducible assumption)) | exact HCL.out _ (HAL.out _ _ (HDR.out _ (by with_reducible assumption))) | exact HCL.out _ (HDR.out _ (HAL.out _ _ (by with_reducible assumption))) | exact HCL.out _ (HDR.out _ (HDR.out _ (HAL.out _ _ (by with_reducible assumption)))))
        (first
          | (go_at_call 42; (with_reducible refine Calls.mono (HNX.out _ (by repeat (first | with_reducible assumption | with_reducible refine HAL.out _ _ ?_ | with_reducible refine HDR.out _ ?_))) ?_); rintro e w8 ⟨rfl, hinv8, hk8⟩)
          | (go_at_call 35; (with_reducible refine Calls.mono (HPT.out _ (by repeat (first | with_reducible assumption | with_reducible refine HAL.out _ _ ?_ | with_reducible refine HDR.out _ ?_))) ?_); rintro e w9 ⟨rfl, hinv9, hk9⟩
             (try (have q9 : w9.heap[w2.heap.size]? = some (.cells #[.int .i64 0, .slice none 0 0, .slice none 0 0] 28 (0, 0)) := hk9 _ _ (hk8 _ _ (heap_alloc_new w2 (.cells #[.int .i64 0, .slice none 0 0, .slice none 0 0] 28)))
                   have HX9 : Hid (∃ V, I V ∧ V.heap.size ≤ w2.heap.size) := Lib.hid ⟨w2, hnew, Nat.le_refl _⟩))
             (try (have q9 : w9.heap[w8.heap.size]? = some (.cells #[.int .i64 0, .slice none 0 0, .slice none 0 0] 28 (0, 0)) := hk9 _ _ (heap_alloc_new w8 (.cells #[.int .i64 0, .slice none 0 0, .slice none 0 0] 28))
                   have HX9 : Hid (∃ V, I V ∧ V.heap.size ≤ w8.heap.size) := Lib.hid ⟨w8, hinv8, Nat.le_refl _⟩))
             (try (have Q9 := Lib.hid q9
                   have p0 := obj_cell q9 0
                   have p1 := obj_cell q9 1
                   have p2 := obj_cell q9 2
                   have g0 := obj_free q9 0
                   have g1 := obj_free q9 1
                   have g2 := obj_free q9 2
                   simp at p0 p1 p2
                   clear q9))))
      all_goals
        go_wp2
        go_meet
        refine ⟨rfl, Lib.hid ?_⟩
        first
          | (obtain ⟨V9, hv9, hl9⟩ := HX9.out; exact HPUT.out _ _ _ _ _ _ _ _ _ hinv9 Q9.out (by have := HTS.out _ hv9; omega))
          | exact HAL.out _ _ hinv9
          | exact HDR.out _ (HAL.out _ _ hinv9)
  case rest =>
  obtain ⟨rfl, HI3⟩ := hcut
  go_upto_region 3 with fail
  go_cut [5, 6] (fun p c wx => ∃ (bx : Nat) (aU aV : Option Addr) (nU cU nV cV : Nat), p = .pointer (some ⟨bx, 0, none⟩) ∧ c = .int .i64 0 ∧ Hid (BxI w bx exAcc2 (.slice aU nU cU) (.slice aV nV cV) wx))
  case first =>
      have HNX : Hid (∀ W, I W → Calls Try.prog 42 #[.agg #[.int .i64 0, .slice aS 2 cS, .slice aE 0 cE], .int .i64 0, .int .i64 0, .int .i64 2, .int .i64 5, .int .i64 0] W fun e w' => e = .returned (.agg #[.int .i64 1, .int .i64 0, .int .i64 0, .int .i64 2, .int .i64 5, .int .i64 0]) ∧ I w' ∧ KeepB W w') := Lib.hid fun W hW =>
        (acNext_any [] 0 (.slice aS 2 cS) (.slice aE 0 cE) 0 0 2 5 0 W (HIA.out W hW).ents (by simp) (by decide) (by decide)).mono fun e w' h => ⟨h.1, HAI.out _ ((HIA.out W hW).below h.2), keepB h.2⟩
      have HPT : Hid (∀ W, I W → Calls Try.prog 35 #[.agg #[.int .i64 0, .slice aS 2 cS, .slice aE 0 cE], .agg #[.int .i64 1, .int .i64 0, .int .i64 0, .int .i64 2, .int .i64 5, .int .i64 0]] W fun e w' => ∃ (aU aV : Option Addr) (nU cU nV cV : Nat), e = .returned (.tuple #[.agg #[.int .i64 0, .slice aU nU cU, .slice aV nV cV], .int .i64 0]) ∧ I w' ∧ KeepB W w' ∧ SubsAt w' (.slice aU nU cU) exAcc2.subs ∧ EntsAt w' (.slice aV nV cV) exAcc2.ents) := Lib.hid fun W hW => by
        have h := acPost_any exAcc ⟨1, 0, 0, 2, 5, 0⟩ (.slice aS 2 cS) (.slice aE 0 cE) W (HIA.out W hW).subs (HIA.out W hW).ents (by decide) (by decide)
        rw [show postM exAcc ⟨1, 0, 0, 2, 5, 0⟩ = .ok exAcc2 from ex_yes] at h
        refine h.mono ?_
        rintro e w' ⟨su, en, h1, h2, h3, h4⟩
        obtain ⟨aU, cU, rfl, -, -⟩ := h2.shape
        obtain ⟨aV, cV, rfl, -, -⟩ := h3.shape
        exact ⟨aU, aV, _, cU, _, cV, h1, HAI.out _ ((HIA.out W hW).below h4), keepB h4, h2, h3⟩
      have HEP : Hid (∀ (V : World) (bx : Nat) (aU aV : Option Addr) (nU cU nV cV : Nat), I V → V.heap[bx]? = some (.cells #[.int .i64 0, .slice none 0 0, .slice none 0 0] 28 (0, 0)) → bA < bx → SubsAt V (.slice aU nU cU) exAcc2.subs → EntsAt V (.slice aV nV cV) exAcc2.ents → BxI w bx exAcc2 (.slice aU nU cU) (.slice aV nV cV) (put3 V bx (.int .i64 0) (.slice aU nU cU) (.slice aV nV cV))) := Lib.hid fun V bx aU aV nU cU nV cV hV hx hlt h1 h2 => by
        have hv := HIA.out V hV
        have hg := put3_grown V bx (.int .i64 0) (.slice aU nU cU) (.slice aV nV cV)
        have hl := lone_acc hx
        have hf := hv.far
        exact ⟨put3_below hv.old (by omega) _ _ _, put3_at hx rfl _ _ _, h1.keep hl hg, h2.keep hl hg, by omega⟩
      have HEA : Hid (∀ (V : World) (aU aV : Option Addr) (nU cU nV cV : Nat), I V → SubsAt V (.slice aU nU cU) exAcc2.subs → EntsAt V (.slice aV nV cV) exAcc2.ents → BxI w V.heap.size exAcc2 (.slice aU nU cU) (.slice aV nV cV) (V.alloc (.cells #[.int .i64 0, .slice aU nU cU, .slice aV nV cV] 28))) := Lib.hid fun V aU aV nU cU nV cV hV h1 h2 => by
        have hv := HIA.out V hV
        exact ⟨hv.old.alloc hv.old.size _, heap_alloc_new _ _, h1.below (below_alloc _ _), h2.below (below_alloc _ _), hv.old.size⟩
      have hnew := HI3.out
      have hcs := HCL.out _ hnew
      go_region_held3 (fun W => ∀ i, W.cell? ⟨bA, i, none⟩ = #[.int .i64 0, .slice aS 2 cS, .slice aE 0 cE][i]?)
        (first | with_reducible assumption | ((with_reducible refine HST.out _ _ _ _ _ hinv9 ?_); first | (have := HTS.out _ hinv8; omega) | (have := HTS.out _ hnew; omega)) | exact HCL.out _ (by with_reducible assumption) | exact HCL.out _ (HDR.out _ (by with_reducible assumption)) | exact HCL.out _ (HAL.out _ _ (by with_reducible assumption)) | exact HCL.out _ (HAL.out _ _ (HDR.out _ (by with_reducible assumption))) | exact HCL.out _ (HDR.out _ (HAL.out _ _ (by with_reducible assumption))) | exact HCL.out _ (HDR.out _ (HDR.out _ (HAL.out _ _ (by with_reducible assumption)))))
        (first
          | (go_at_call 42; (with_reducible refine Calls.mono (HNX.out _ (by repeat (first | with_reducible assumption | with_reducible refine HAL.out _ _ ?_ | with_reducible refine HDR.out _ ?_))) ?_); rintro e w8 ⟨rfl, hinv8, hk8⟩)
          | (go_at_call 35; (with_reducible refine Calls.mono (HPT.out _ (by repeat (first | with_reducible assumption | with_reducible refine HAL.out _ _ ?_ | with_reducible refine HDR.out _ ?_))) ?_); rintro e w9 ⟨aU, aV, nU, cU, nV, cV, rfl, hinv9, hk9, hs9, he9⟩
             (try (have q9 : w9.heap[wc.heap.size]? = some (.cells #[.int .i64 0, .slice none 0 0, .slice none 0 0] 28 (0, 0)) := hk9 _ _ (hk8 _ _ (heap_alloc_new wc (.cells #[.int .i64 0, .slice none 0 0, .slice none 0 0] 28)))
                   have HX9 : Hid (∃ V, I V ∧ V.heap.size ≤ wc.heap.size) := Lib.hid ⟨wc, hnew, Nat.le_refl _⟩))
             (try (have q9 : w9.heap[w8.heap.size]? = some (.cells #[.int .i64 0, .slice none 0 0, .slice none 0 0] 28 (0, 0)) := hk9 _ _ (heap_alloc_new w8 (.cells #[.int .i64 0, .slice none 0 0, .slice none 0 0] 28))
                   have HX9 : Hid (∃ V, I V ∧ V.heap.size ≤ w8.heap.size) := Lib.hid ⟨w8, hinv8, Nat.le_refl _⟩))
             (try (have Q9 := Lib.hid q9
                   have p0 := obj_cell q9 0
                   have p1 := obj_cell q9 1
                   have p2 := obj_cell q9 2
                   have g0 := obj_free q9 0
                   have g1 := obj_free q9 1
                   have g2 := obj_free q9 2
                   simp at p0 p1 p2
                   clear q9))))
      all_goals
        go_wp2
        go_meet
        refine ⟨_, aU, aV, nU, cU, nV, cV, rfl, rfl, Lib.hid ?_⟩
        first
          | (obtain ⟨V9, hv9, hl9⟩ := HX9.out; exact HEP.out _ _ _ _ _ _ _ _ hinv9 Q9.out (by have := HTS.out _ hv9; omega) hs9 he9)
          | exact HEA.out _ _ _ _ _ _ _ hinv9 hs9 he9
          | exact (HEA.out _ _ _ _ _ _ _ hinv9 hs9 he9).below (Below.refl _ _).drew
  case rest =>
  obtain ⟨bx, aU, aV, nU, cU, nV, cV, rfl, rfl, HB⟩ := hcut
  clear HIA HAI HDR HAL HCL HTS HST HPUT HI2 HI3
  have HBL := Lib.hid (fun W (hW : BxI w bx exAcc2 (.slice aU nU cU) (.slice aV nV cV) W) => acBalance_any exAcc2 (.slice aU nU cU) (.slice aV nV cV) 2 W hW.subs hW.ents (by decide) (by decide))
  rw [ex_bal] at HBL
  have HTO := Lib.hid (fun W (hW : BxI w bx exAcc2 (.slice aU nU cU) (.slice aV nV cV) W) => acTotal_any exAcc2 (.slice aU nU cU) (.slice aV nV cV) W hW.subs hW.ents (by decide) (by decide))
  rw [ex_total] at HTO
  simp only [show exAcc2.credit = 0 from rfl] at HBL HTO
  have hbx := HB.out.box
  have u0 := obj_cell hbx 0
  have u1 := obj_cell hbx 1
  have u2 := obj_cell hbx 2
  simp [exAcc2] at u0 u1 u2
  clear hbx
  go_wp2_with fail
  refine (HBL.out _ HB.out).mono ?_
  rintro e w6 ⟨rfl, hb6⟩
  have HB6 := Lib.hid (HB.out.below hb6)
  have hbx := HB6.out.box
  have v0 := obj_cell hbx 0
  have v1 := obj_cell hbx 1
  have v2 := obj_cell hbx 2
  simp [exAcc2] at v0 v1 v2
  clear hbx hb6 u0 u1 u2
  go_wp2_with fail
  refine (HTO.out _ HB6.out).mono ?_
  rintro e w7 ⟨rfl, hb7⟩
  have HB7 := Lib.hid (HB6.out.below hb7)
  clear hb7
  go_wp2
  go_ret
  exact ⟨rfl, HB7.out.old⟩

end Go.Proofs.Ytoelidndnajedaa
