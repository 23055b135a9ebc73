/- The contract of the account's reference's Post. -/
import Derived.Test.YtoelidndnajedabMAcC
import Derived.Test.YtoelidndnajedabMAcN
import Derived.Deep.RegionHeld3
set_option linter.unusedSimpArgs false
set_option linter.unusedVariables false
namespace Go.Proofs.Ytoelidndnajedab
open Go.RowKit Go.Lib Go.Proofs

theorem Try.infoE : (Try.prog.info? 86).map (fun i => (i.zero, i.size, i.bytes)) = some (some (.agg #[.int .i64 0, .int .i64 0, .int .i64 0, .int .i64 0, .int .i64 0, .int .i64 0]), 6, 48) := by kernel_rfl
theorem infoE_parts : ∃ i, Try.prog.info? 86 = some i ∧ i.zero = some (.agg #[.int .i64 0, .int .i64 0, .int .i64 0, .int .i64 0, .int .i64 0, .int .i64 0]) ∧ i.size = 6 ∧ i.bytes = 48 := info_parts Try.infoE

/-- What Post hands back. -/
def PostPost (w : World) : Except Int Acc → Ending → World → Prop
  | .ok b, e, w' => ∃ su en, e = .returned (.tuple #[.agg #[.int .i64 b.credit, su, en], .int .i64 0]) ∧ SubsAt w' su b.subs ∧ EntsAt w' en b.ents ∧ Below w.heap.size w w'
  | .error c, e, w' => e = .returned (.tuple #[.agg #[.int .i64 0, .slice none 0 0, .slice none 0 0], .int .i64 c]) ∧ Below w.heap.size w w'

/-- A world within Post: the account, the entry, the result's place. -/
structure PInv (w : World) (ac en : Array Value) (W : World) : Prop where
  box : W.heap[w.heap.size]? = some (.cells ac 56 (0, 0))
  ent : W.heap[w.heap.size + 1]? = some (.cells en 86 (0, 0))
  res : W.heap[w.heap.size + 1 + 1]? = some (.cells #[.int .i64 0, .slice none 0 0, .slice none 0 0] 56 (0, 0))
  old : Below w.heap.size w W
theorem PInv.later {w : World} {ac en : Array Value} {A B : World} (h : PInv w ac en A) (hb : Below A.heap.size A B) : PInv w ac en B :=
  ⟨obj_below h.box hb, obj_below h.ent hb, obj_below h.res hb, h.old.trans (hb.mono h.old.size)⟩
theorem PInv.new (w : World) (ac en : Array Value) : PInv w ac en (((w.alloc (.cells ac 56)).alloc (.cells en 86)).alloc (.cells #[.int .i64 0, .slice none 0 0, .slice none 0 0] 56)) := by
  have h2 := below_alloc ((w.alloc (.cells ac 56)).alloc (.cells en 86)) (.cells #[.int .i64 0, .slice none 0 0, .slice none 0 0] 56)
  refine ⟨obj_below (alloc1_at w _ _) h2, obj_below (alloc2_at w _ _) h2, ?_, (below2 w _ _).alloc (by simp; omega) _⟩
  have := heap_alloc_new ((w.alloc (.cells ac 56)).alloc (.cells en 86)) (.cells #[.int .i64 0, .slice none 0 0, .slice none 0 0] 56)
  rwa [World.size_alloc, World.size_alloc] at this

set_option maxRecDepth 100000 in
set_option maxHeartbeats 8000000 in
theorem raPost_any (a : Acc) (x : Ent) (su en : Value) (w : World) (h : SubsAt w su a.subs) (he : EntsAt w en a.ents) (hlen : a.subs.length ≤ 1000000) (hlen2 : a.ents.length ≤ 1000000) :
    Calls Try.prog 43 #[.agg #[.int .i64 a.credit, su, en], .agg x.cells.toArray] w (PostPost w (postM a x)) := by
  have HCK := Lib.hid (fun W (hW : Below w.heap.size w W) => raCheck_any a su en W (h.below hW) (he.below hW) hlen hlen2)
  have HLA := Lib.hid (fun W (hW : Below w.heap.size w W) => ralast_any a.ents a.credit su en W (he.below hW) hlen2)
  have HS := Lib.hid h
  have HE := Lib.hid he
  obtain ⟨r, hr⟩ : ∃ r, r = postM a x := ⟨_, rfl⟩
  have HR := Lib.hid hr
  have HP0 := Lib.hid (PInv.new w #[.int .i64 a.credit, su, en] x.cells.toArray)
  rw [← hr]
  obtain ⟨x0, x1, x2, x3, x4, x5⟩ := x
  simp only [Ent.cells] at HP0 ⊢
  clear hr h
  obtain ⟨ao, cap, rfl, hcap, hcells⟩ := he.shape
  have HEC := Lib.hid hcells
  obtain ⟨m, hm⟩ : ∃ m, m = a.ents.length := ⟨_, rfl⟩
  have HM := Lib.hid hm
  rw [← hm] at HCK HLA HP0 hcap hlen2 ⊢
  clear hcells hm he
  go_enter Try.func43, Try.ntmps43
  go_wp2_with fail
  refine (HCK.out _ HP0.out.old).mono ?_
  rintro e w1 ⟨rfl, hb1⟩
  have HP1 := Lib.hid (HP0.out.later hb1)
  clear hb1 HP0
  by_cases hc : checkM a = 0
  case neg =>
    obtain rfl : r = .error (checkM a) := HR.out.trans (if_pos hc)
    generalize checkM a = c at *
    have hc1 : (c == 0) = false := by rw [beq_eq_false_iff_ne]; exact hc
    have hc2 : (c != 0) = true := by rw [bne, hc1]; rfl
    have hrb := HP1.out.res
    have s0 := obj_cell hrb 0
    have f0 := obj_free hrb 0
    have s1 := obj_cell hrb 1
    have f1 := obj_free hrb 1
    have s2 := obj_cell hrb 2
    have f2 := obj_free hrb 2
    simp at s0 s1 s2
    clear hrb
    clear hc HR
    go_wp2
    show bodyPost Try.prog Try.f43 _ Exit.ret _ (put3 w1 (w.heap.size + 1 + 1) (.int .i64 0) (.slice none 0 0) (.slice none 0 0))
    exact ret3 HP1.out.res rfl _ _ _ (fun F hF => by
      have q0 := obj_cell hF 0
      have q1 := obj_cell hF 1
      have q2 := obj_cell hF 2
      simp [results, Try.results43, go_sem, q0, q1, q2]) rfl ⟨rfl, put3_below HP1.out.old (by omega) _ _ _⟩
  rw [hc]
  have HR2 := Lib.hid (HR.out.trans (if_neg (fun h => h hc)))
  have HOK := Lib.hid hc
  clear hc HR
  by_cases h4 : m = 400
  · subst h4
    obtain rfl : r = .error 3 := HR2.out.trans (if_pos HM.out.symm)
    have hv1 := HP1.out.box
    have v2 := obj_cell hv1 2
    simp at v2
    have hrb := HP1.out.res
    have s0 := obj_cell hrb 0
    have f0 := obj_free hrb 0
    have s1 := obj_cell hrb 1
    have f1 := obj_free hrb 1
    have s2 := obj_cell hrb 2
    have f2 := obj_free hrb 2
    simp at s0 s1 s2
    clear hrb
    clear hv1
    go_wp2
    show bodyPost Try.prog Try.f43 _ Exit.ret _ (put3 w1 (w.heap.size + 1 + 1) (.int .i64 0) (.slice none 0 0) (.slice none 0 0))
    exact ret3 HP1.out.res rfl _ _ _ (fun F hF => by
      have q0 := obj_cell hF 0
      have q1 := obj_cell hF 1
      have q2 := obj_cell hF 2
      simp [results, Try.results43, go_sem, q0, q1, q2]) rfl ⟨rfl, put3_below HP1.out.old (by omega) _ _ _⟩
  have h4' : ((m : Int) == 400) = false := by rw [beq_eq_false_iff_ne]; omega
  have HR3 := Lib.hid (HR2.out.trans (if_neg (fun h => h4 (HM.out.trans h))))
  clear h4 HR2
  have hv1 := HP1.out.box
  have v2 := obj_cell hv1 2
  simp at v2
  clear hv1
  have hz := checkM_zero.1 HOK.out
  have hpl := hz.2.2.1
  unfold plainM at hpl
  simp only [Bool.and_eq_true] at hpl
  have HADD := Lib.hid (fun W (hW : Below w.heap.size w W) => raadd_any a.credit su a.subs (lastE a.ents) ⟨x0, x1, x2, x3, x4, x5⟩ W (HS.out.below hW) (by have := hz.1; omega) hpl.1 (bals_range hpl.1 (right_bals HOK.out)) (by rw [right_number HOK.out]; omega) (by rw [right_number HOK.out]; have := hz.2.1; omega))
  obtain ⟨y, hy⟩ : ∃ y, y = lastE a.ents := ⟨_, rfl⟩
  rw [← hy] at HADD HLA HR3
  obtain ⟨y0, y1, y2, y3, y4, y5⟩ := y
  simp only [Ent.cells] at HADD HLA
  obtain ⟨I, hI⟩ : ∃ I, I = PInv w #[.int .i64 a.credit, su, .slice ao m cap] #[.int .i64 x0, .int .i64 x1, .int .i64 x2, .int .i64 x3, .int .i64 x4, .int .i64 x5] := ⟨_, rfl⟩
  have HIP : Hid (∀ W, I W → PInv w #[.int .i64 a.credit, su, .slice ao m cap] #[.int .i64 x0, .int .i64 x1, .int .i64 x2, .int .i64 x3, .int .i64 x4, .int .i64 x5] W) := Lib.hid fun W hW => by rw [hI] at hW; exact hW
  have HI1 : Hid (I w1) := Lib.hid (by rw [hI]; exact HP1.out)
  have HDR : Hid (∀ W, I W → I W.drew) := Lib.hid fun W hW => by rw [hI] at hW ⊢; exact hW.later (Below.refl _ _).drew
  have HLI : Hid (∀ W, I W → Calls Try.prog 59 #[.agg #[.int .i64 a.credit, su, .slice ao m cap]] W fun e w' => e = .returned (.agg #[.int .i64 y0, .int .i64 y1, .int .i64 y2, .int .i64 y3, .int .i64 y4, .int .i64 y5]) ∧ I w') := Lib.hid fun W hW => by
    rw [hI] at hW ⊢
    exact (HLA.out W hW.old).mono fun e w' h => ⟨h.1, hW.later h.2⟩
  have HCE : Hid (∀ W, I W → (∀ j, W.cell? ⟨w.heap.size, j, none⟩ = #[.int .i64 a.credit, su, .slice ao m cap][j]?) ∧ (∀ j, W.cell? ⟨w.heap.size + 1, j, none⟩ = #[.int .i64 x0, .int .i64 x1, .int .i64 x2, .int .i64 x3, .int .i64 x4, .int .i64 x5][j]?)) := Lib.hid fun W hW => by
    rw [hI] at hW
    exact ⟨fun j => obj_cell hW.box j, fun j => obj_cell hW.ent j⟩
  go_upto_region 6 with fail
  clear v2 hz hpl hy HP1
  cases hq : addM a.credit a.subs ⟨y0, y1, y2, y3, y4, y5⟩ ⟨x0, x1, x2, x3, x4, x5⟩ with
  | error c =>
    rw [hq] at HADD
    have hr3 := HR3.out
    rw [hq] at hr3
    obtain rfl : r = .error c := hr3
    have hc := addM_err hq
    have hc1 : (c == 0) = false := by rw [beq_eq_false_iff_ne]; exact hc
    have hc2 : (c != 0) = true := by rw [bne, hc1]; rfl
    have HAI : Hid (∀ W, I W → Calls Try.prog 58 #[.int .i64 a.credit, su, .agg #[.int .i64 y0, .int .i64 y1, .int .i64 y2, .int .i64 y3, .int .i64 y4, .int .i64 y5], .agg #[.int .i64 x0, .int .i64 x1, .int .i64 x2, .int .i64 x3, .int .i64 x4, .int .i64 x5]] W fun e w' => e = .returned (.tuple #[.slice none 0 0, .int .i64 c]) ∧ I w') := Lib.hid fun W hW => by
      rw [hI] at hW ⊢
      exact (HADD.out W hW.old).mono fun e w' h => ⟨h.1, hW.later h.2⟩
    clear hI hq hc HR3 HADD HLA HCK HS HE
    have hnew := HI1.out
    have hcs := HCE.out _ hnew
    go_region_held3 (fun W => (∀ j, W.cell? ⟨w.heap.size, j, none⟩ = #[.int .i64 a.credit, su, .slice ao m cap][j]?) ∧ (∀ j, W.cell? ⟨w.heap.size + 1, j, none⟩ = #[.int .i64 x0, .int .i64 x1, .int .i64 x2, .int .i64 x3, .int .i64 x4, .int .i64 x5][j]?))
      (first | exact HCE.out _ (by assumption) | exact HCE.out _ (HDR.out _ (by assumption)))
      (first
        | (go_at_call 59; (with_reducible refine (HLI.out _ (by first | assumption | exact HDR.out _ (by assumption))).mono ?_); rintro e w' ⟨rfl, hinv⟩)
        | (go_at_call 58; (with_reducible refine (HAI.out _ (by first | assumption | exact HDR.out _ (by assumption))).mono ?_); rintro e w' ⟨rfl, hinv⟩))
    have HP2 := Lib.hid (HIP.out w' (by assumption))
    clear hnew hcs hinv HCE HLI HAI HDR HIP HI1
    generalize w' = w2 at *
    have hrb := HP2.out.res
    have s0 := obj_cell hrb 0
    have f0 := obj_free hrb 0
    have s1 := obj_cell hrb 1
    have f1 := obj_free hrb 1
    have s2 := obj_cell hrb 2
    have f2 := obj_free hrb 2
    simp at s0 s1 s2
    clear hrb
    go_wp2
    show bodyPost Try.prog Try.f43 _ Exit.ret _ (put3 w2 (w.heap.size + 1 + 1) (.int .i64 0) (.slice none 0 0) (.slice none 0 0))
    exact ret3 HP2.out.res rfl _ _ _ (fun F hF => by
      have q0 := obj_cell hF 0
      have q1 := obj_cell hF 1
      have q2 := obj_cell hF 2
      simp [results, Try.results43, go_sem, q0, q1, q2]) rfl ⟨rfl, put3_below HP2.out.old (by omega) _ _ _⟩
  | ok q =>
    rw [hq] at HADD
    have hr3 := HR3.out
    rw [hq] at hr3
    have HRK := Lib.hid hr3
    have HAI : Hid (∀ W, I W → Calls Try.prog 58 #[.int .i64 a.credit, su, .agg #[.int .i64 y0, .int .i64 y1, .int .i64 y2, .int .i64 y3, .int .i64 y4, .int .i64 y5], .agg #[.int .i64 x0, .int .i64 x1, .int .i64 x2, .int .i64 x3, .int .i64 x4, .int .i64 x5]] W fun e w' => ∃ v, e = .returned (.tuple #[v, .int .i64 0]) ∧ I w' ∧ Hid (w'.ownsRow (w.heap.size + 1 + 1 + 1) 62 2 v q.length (cellsU q))) := Lib.hid fun W hW => by
      rw [hI] at hW ⊢
      refine (HADD.out W hW.old).mono ?_
      rintro e w' ⟨v, h1, h2, h3⟩
      exact ⟨v, h1, hW.later h3, Lib.hid (ownsRow_mono h2 (obj_lt hW.res))⟩
    clear hI hq hr3 HR3 HADD HLA HCK HS
    have hnew := HI1.out
    have hcs := HCE.out _ hnew
    go_region_held3 (fun W => (∀ j, W.cell? ⟨w.heap.size, j, none⟩ = #[.int .i64 a.credit, su, .slice ao m cap][j]?) ∧ (∀ j, W.cell? ⟨w.heap.size + 1, j, none⟩ = #[.int .i64 x0, .int .i64 x1, .int .i64 x2, .int .i64 x3, .int .i64 x4, .int .i64 x5][j]?))
      (first | exact HCE.out _ (by assumption) | exact HCE.out _ (HDR.out _ (by assumption)))
      (first
        | (go_at_call 59; (with_reducible refine (HLI.out _ (by first | assumption | exact HDR.out _ (by assumption))).mono ?_); rintro e w' ⟨rfl, hinv⟩)
        | (go_at_call 58; (with_reducible refine (HAI.out _ (by first | assumption | exact HDR.out _ (by assumption))).mono ?_); rintro e w' ⟨v5, rfl, hinv, HO5⟩))
    have HP2 := Lib.hid (HIP.out w' (by assumption))
    clear hnew hcs hinv HCE HLI HAI HDR HIP HI1
    generalize w' = w2 at *
    obtain ⟨ao5, cp5, rfl, hc5, -⟩ := owns_gen HO5.out
    have hbx := HP2.out.box
    have v1 := obj_cell hbx 1
    have g1 := obj_free hbx 1
    simp at v1
    clear hbx
    go_upto_region 10 with fail
    obtain ⟨W, hW⟩ : ∃ W, W = w2.setCell ⟨w.heap.size, 1, none⟩ (.slice ao5 q.length cp5) := ⟨_, rfl⟩
    have HPW : Hid (PInv w #[.int .i64 a.credit, .slice ao5 q.length cp5, .slice ao m cap] #[.int .i64 x0, .int .i64 x1, .int .i64 x2, .int .i64 x3, .int .i64 x4, .int .i64 x5] W) := Lib.hid (by
      rw [hW]
      refine ⟨?_, (Below.heap_setCell w2 _ _ _ (by show w.heap.size + 1 ≠ w.heap.size; omega)).trans HP2.out.ent, (Below.heap_setCell w2 _ _ _ (by show w.heap.size + 1 + 1 ≠ w.heap.size; omega)).trans HP2.out.res, HP2.out.old.setCell (Nat.le_refl _) _⟩
      have := obj_set HP2.out.box 1 (.slice ao5 q.length cp5)
      simpa using this)
    have HOW : Hid (W.ownsRow (w.heap.size + 1 + 1 + 1) 62 2 (.slice ao5 q.length cp5) q.length (cellsU q)) := Lib.hid (by
      rw [hW]
      exact HO5.out.kept (setCell_grown 1 _) (ownBlock_ne HO5.out _ (by omega)))
    rw [← hW]
    clear hW v1 g1 HP2 HO5
    obtain ⟨k0, hkk, hy0, hy1, hy2⟩ := infoE_parts
    have HB1 : Hid (Below W.heap.size W W.drew) := Lib.hid (Below.refl _ _).drew
    have HB2 : Hid (∀ o, Below W.heap.size W (W.drew.alloc o)) := Lib.hid fun o => ((Below.refl _ _).drew).alloc (Nat.le_refl _) _
    have HPG : Hid (∀ V V' row, Below W.heap.size W V → V.grownBy V' row → (∀ r, row = some r → W.heap.size ≤ r) → PInv w #[.int .i64 a.credit, .slice ao5 q.length cp5, .slice ao m cap] #[.int .i64 x0, .int .i64 x1, .int .i64 x2, .int .i64 x3, .int .i64 x4, .int .i64 x5] V' ∧ Below W.heap.size W V') := Lib.hid fun V V' row h1 h2 h3 => by
      have := h1.grown h2 h1.size h3
      exact ⟨HPW.out.later this, this⟩
    have hp0 := HPW.out.later HB1.out
    have e0 := obj_cell hp0.ent 0
    have e1 := obj_cell hp0.ent 1
    have e2 := obj_cell hp0.ent 2
    have e3 := obj_cell hp0.ent 3
    have e4 := obj_cell hp0.ent 4
    have e5 := obj_cell hp0.ent 5
    have b2 := obj_cell hp0.box 2
    simp at e0 e1 e2 e3 e4 e5 b2
    clear hp0
    have HB3 : Hid (∀ o, Below W.heap.size W (W.alloc o).drew) := Lib.hid fun o => ((Below.refl _ _).alloc (Nat.le_refl _) _).drew
    have b3 : ∀ o, (W.alloc o).cell? ⟨w.heap.size, 2, none⟩ = some (.slice ao m cap) := fun o => obj_cell (HPW.out.later ((Below.refl _ _).alloc (Nat.le_refl _) o)).box 2
    have HNV : Hid (∀ V, Below W.heap.size W V → m = 0 ∨ ∃ ad : Addr, ao = some ad ∧ ∀ j u, (cellsN a.ents)[j]? = some u → V.cell? (ad.add j) = some u) := Lib.hid fun V hV => by
      rcases HE.out.news with h | ⟨ad, h1, h2⟩
      · exact Or.inl (HM.out.trans h)
      · exact Or.inr ⟨ad, h1, h2 V (HPW.out.old.trans (hV.mono HPW.out.old.size))⟩
    have HEND : Hid (∀ w9 v9, PInv w #[.int .i64 a.credit, .slice ao5 q.length cp5, .slice ao m cap] #[.int .i64 x0, .int .i64 x1, .int .i64 x2, .int .i64 x3, .int .i64 x4, .int .i64 x5] w9 → Below W.heap.size W w9 → w9.ownsRow W.heap.size 86 6 v9 (m + 1) (cellsN a.ents ++ [.int .i64 x0, .int .i64 x1, .int .i64 x2, .int .i64 x3, .int .i64 x4, .int .i64 x5]) →
        ∃ en, Hid ((w9.setCell ⟨w.heap.size, 2, none⟩ v9).heap[w.heap.size]? = some (.cells #[.int .i64 a.credit, .slice ao5 q.length cp5, en] 56 (0, 0)))
          ∧ Hid ((w9.setCell ⟨w.heap.size, 2, none⟩ v9).heap[w.heap.size + 1 + 1]? = some (.cells #[.int .i64 0, .slice none 0 0, .slice none 0 0] 56 (0, 0)))
          ∧ Hid ((w9.setCell ⟨w.heap.size, 2, none⟩ v9).ownsRow (w.heap.size + 1 + 1 + 1) 62 2 (.slice ao5 q.length cp5) q.length (cellsU q))
          ∧ Hid ((w9.setCell ⟨w.heap.size, 2, none⟩ v9).ownsRow (w.heap.size + 1 + 1 + 1) 86 6 en (m + 1) (cellsN a.ents ++ [.int .i64 x0, .int .i64 x1, .int .i64 x2, .int .i64 x3, .int .i64 x4, .int .i64 x5]))
          ∧ Hid (Below w.heap.size w (w9.setCell ⟨w.heap.size, 2, none⟩ v9))) := Lib.hid fun w9 v9 hp hb ho => by
      have hm : w9.ownsRow (w.heap.size + 1 + 1 + 1) 86 6 v9 (m + 1) (cellsN a.ents ++ [.int .i64 x0, .int .i64 x1, .int .i64 x2, .int .i64 x3, .int .i64 x4, .int .i64 x5]) := ownsRow_mono ho (obj_lt HPW.out.res)
      have hs := ownsRow_below HOW.out hb
      refine ⟨v9, Lib.hid ?_, Lib.hid ?_, Lib.hid ?_, Lib.hid ?_, Lib.hid (hp.old.setCell (Nat.le_refl _) _)⟩
      · have := obj_set hp.box 2 v9
        simpa using this
      · exact (Below.heap_setCell w9 _ _ _ (by show w.heap.size + 1 + 1 ≠ w.heap.size; omega)).trans hp.res
      · exact hs.kept (setCell_grown 2 _) (ownBlock_ne hs _ (by omega))
      · exact hm.kept (setCell_grown 2 _) (ownBlock_ne hm _ (by omega))
    go_cut [] (fun wx => ∃ en, Hid (wx.heap[w.heap.size]? = some (.cells #[.int .i64 a.credit, .slice ao5 q.length cp5, en] 56 (0, 0)))
          ∧ Hid (wx.heap[w.heap.size + 1 + 1]? = some (.cells #[.int .i64 0, .slice none 0 0, .slice none 0 0] 56 (0, 0)))
          ∧ Hid (wx.ownsRow (w.heap.size + 1 + 1 + 1) 62 2 (.slice ao5 q.length cp5) q.length (cellsU q))
          ∧ Hid (wx.ownsRow (w.heap.size + 1 + 1 + 1) 86 6 en (m + 1) (cellsN a.ents ++ [.int .i64 x0, .int .i64 x1, .int .i64 x2, .int .i64 x3, .int .i64 x4, .int .i64 x5]))
          ∧ Hid (Below w.heap.size w wx))
    case first =>
      go_region_law (first
        | (refine step_fresh _ (by rfl) _ _ 54 (by rfl) W.heap.size 86 k0 _ 6 48 Try.underlying54 hkk hy0 hy1 hy2 (by rfl) (by decide) (by rfl) ao m cap (cellsN a.ents) (by rfl) (by rw [cellsN_len, HM.out]) (HNV.out _ (by first | exact HB1.out | exact HB2.out _ | exact HB3.out _)) (cellsN_one _) (by unfold maxLen; omega) (by omega) (by first | exact HB1.out.size | exact (HB2.out _).size | exact (HB3.out _).size) ?_
           intro v8 w8 hown8 hgr8
           have hp8 := HPG.out _ _ _ (by first | exact HB1.out | exact HB2.out _ | exact HB3.out _) hgr8 (fun r e => by simp at e)
           have d0 := obj_cell hp8.1.ent 0
           have d1 := obj_cell hp8.1.ent 1
           have d2 := obj_cell hp8.1.ent 2
           have d3 := obj_cell hp8.1.ent 3
           have d4 := obj_cell hp8.1.ent 4
           have d5 := obj_cell hp8.1.ent 5
           simp at d0 d1 d2 d3 d4 d5)
        | (refine step_own _ (by rfl) _ _ 54 (by rfl) W.heap.size 86 k0 _ 6 48 Try.underlying54 hkk hy0 hy1 hy2 (by rfl) (by decide) v8 m (cellsN a.ents) (by rfl) (by first | exact hown8 | exact hown8.alloc _) ⟨_, 0, none⟩ 1 1 [.int .i64 x0, .int .i64 x1, .int .i64 x2, .int .i64 x3, .int .i64 x4, .int .i64 x5] (by rfl) (by rfl) (by first | exact obj_news (heap_alloc_new _ _) | exact obj_news ((hgr8.block _ (by simp) (by simp)).trans (heap_alloc_new _ _)) | exact obj_news ((hgr8.block _ (by simp) (by simp)).trans (heap_alloc_new W _))) (by intro u hu; simp at hu; rcases hu with rfl | rfl | rfl | rfl | rfl | rfl <;> rfl) (by unfold maxLen; omega) (by omega) (by first | exact hp8.2.size | (have := hp8.2.size; simp; omega)) ?_
           intro v9 w9 hown9 hgr9
           have hp9 := HPG.out _ _ _ (by first | exact hp8.2 | exact hp8.2.alloc hp8.2.size _) hgr9 (fun r e => ownBlock_le hown8 r e)
           obtain ⟨a9, c9, rfl, _, _⟩ := owns_gen hown9
           have b9 := obj_cell hp9.1.box 2
           have g9 := obj_free hp9.1.box 2
           simp at b9))
      all_goals
        go_wp2
        go_meet
        exact HEND.out _ _ hp9.1 hp9.2 hown9
    case rest =>
      obtain ⟨en, HX1, HX2, HX3, HX4, HX5⟩ := hcut
      obtain ⟨an, cn, rfl, _, _⟩ := owns_gen HX4.out
      have hx1 := HX1.out
      have c0 := obj_cell hx1 0
      have c1 := obj_cell hx1 1
      have c2 := obj_cell hx1 2
      simp at c0 c1 c2
      have hx2 := HX2.out
      have s0 := obj_cell hx2 0
      have f0 := obj_free hx2 0
      have s1 := obj_cell hx2 1
      have f1 := obj_free hx2 1
      have s2 := obj_cell hx2 2
      have f2 := obj_free hx2 2
      simp at s0 s1 s2
      clear hx1 hx2
      go_wp2
      show bodyPost Try.prog Try.f43 _ Exit.ret _ (put3 wc (w.heap.size + 1 + 1) (.int .i64 a.credit) (.slice ao5 q.length cp5) (.slice an (m + 1) cn))
      exact ret3 (v := .tuple #[.agg #[.int .i64 a.credit, .slice ao5 q.length cp5, .slice an (m + 1) cn], .int .i64 0]) HX2.out rfl _ _ _ (fun F hF => by
        have q0 := obj_cell hF 0
        have q1 := obj_cell hF 1
        have q2 := obj_cell hF 2
        simp [results, Try.results43, go_sem, q0, q1, q2]) rfl (by
        rw [HRK.out]
        refine ⟨.slice ao5 q.length cp5, .slice an (m + 1) cn, rfl, RowG.owns (HX3.out.kept (put3_grown wc _ _ _ _) (ownBlock_ne HX3.out _ (by omega))), ?_, put3_below HX5.out (by omega) _ _ _⟩
        have h := RowG.owns (HX4.out.kept (put3_grown wc (w.heap.size + 1 + 1) (.int .i64 a.credit) (.slice ao5 q.length cp5) (.slice an (m + 1) cn)) (ownBlock_ne HX4.out _ (by omega)))
        unfold EntsAt
        rw [cellsN_app, List.length_append, ← HM.out]
        simpa [cellsN, Ent.cells] using h)

end Go.Proofs.Ytoelidndnajedab
