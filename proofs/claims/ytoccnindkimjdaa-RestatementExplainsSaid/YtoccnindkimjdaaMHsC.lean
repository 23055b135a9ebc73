/- One step of the source's histories. -/
import Derived.Test.YtoccnindkimjdaaMG6
set_option linter.unusedSimpArgs false
set_option linter.unusedVariables false
set_option linter.unusedSimpArgs false
set_option linter.unusedVariables false
namespace Go.Proofs.Ytoccnindkimjdaa
open Go.RowKit Go.Lib Go.Proofs

structure StepTo (h : Hst) (f : Int) (h' : Hst) (f' : Int) : Prop where
  ok : HstOk h'
  cnt : h'.cors.length + h'.pres.length ≤ h.cors.length + h.pres.length + 1
  pre : ∃ m, h'.pres = h.pres ++ m
  led : h'.led = h.led
  fnd : f ≤ f' ∧ f' ≤ f + 29
  last : lastF h'.cors ≤ f'
theorem stepTo_pres {h : Hst} (hh : HstOk h) (hnp : h.pres.length < 20) {f : Int} (hl : lastF h.cors ≤ f) {r : Int} (hr : 0 ≤ r ∧ r < 4) : StepTo h f (presH h r) f :=
  ⟨hh.addP (p := presP h r) ⟨by show 0 ≤ r; omega, by show r ≤ 99; omega⟩ rfl hnp, by show h.cors.length + (h.pres ++ [presP h r]).length ≤ _; rw [List.length_append, List.length_singleton]; omega, ⟨_, rfl⟩, rfl, by omega, hl⟩
theorem stepTo_cor {h : Hst} (hh : HstOk h) (hnc : h.cors.length < 20) {f f2 : Int} (hl : lastF h.cors ≤ f) {c : Cor} (hc : CorOk c) (hf : c.fnd = f2) (h2 : f ≤ f2 ∧ f2 ≤ f + 29) : StepTo h f (corH h c) f2 :=
  ⟨hh.addC hc (by omega) hnc, by show (h.cors ++ [c]).length + h.pres.length ≤ _; rw [List.length_append, List.length_singleton]; omega, ⟨[], by show h.pres = h.pres ++ []; rw [List.append_nil]⟩, rfl, h2, by show lastF (h.cors ++ [c]) ≤ f2; rw [lastF_snoc]; omega⟩
theorem cors_shape {w : World} {u : Value} {C : List Cor} (h : CorsAt w u C) : ∃ (a : Option Addr) (n c : Nat), u = .slice a n c := by
  obtain ⟨rs, h1, h2⟩ := h
  obtain ⟨ac, cc, e3, -, -⟩ := h1.shape crrF
  exact ⟨ac, _, cc, e3⟩

set_option maxRecDepth 100000 in
set_option maxHeartbeats 16000000 in
theorem step44_any (tb : Nat) {h : Hst} (hh : HstOk h) (hnc : h.cors.length < 20) (hnp : h.pres.length < 20) {fnd : Int} (hf : 1080 ≤ fnd ∧ fnd ≤ 30000) (hl : lastF h.cors ≤ fnd) (vl vp vc : Value) (w : World) (ha : HstAt w vl vp vc h) (hs : SrcAt w tb) :
    Calls Try.prog 10 #[.pointer (some ⟨tb, 0, none⟩), .agg #[vl, vp, vc], .int .i64 fnd] w fun e w' => ∃ (h' : Hst) (f' : Int) (ul up uc : Value), e = .returned (.tuple #[.agg #[ul, up, uc], .int .i64 f']) ∧ StepTo h fnd h' f' ∧ HstAt w' ul up uc h' ∧ SI w tb w' := by
  have hlt := hs.lt
  have HA0 := Lib.hid (fun W (hW : SI w tb W) => ha.turn hs hW.old)
  have HRP := Lib.hid (fun (r : Int) (hr : 0 ≤ r ∧ r < 4) (W : World) (hW : HstAt W vl vp vc h) => rfPresent_ok hh (y := r) (by omega) hnp vl vp vc W hW)
  have HRC := Lib.hid (fun (c : Cor) (hc : CorOk c) (hfl : fnd ≤ c.fnd) (sx : Sli) (W : World) (hW : HstAt W vl vp vc h) (hp : PstsAt W sx.v c.ps) => rfCorrect_ok hh hc (by omega) hnc vl vp vc sx W hW hp)
  have HSP := Lib.hid (fun (r : Int) (hr : 0 ≤ r ∧ r < 4) => stepTo_pres hh hnp hl hr)
  have HSC := Lib.hid (fun (c : Cor) (f2 : Int) (hc : CorOk c) (e : c.fnd = f2) (h2 : fnd ≤ f2 ∧ f2 ≤ fnd + 29) => stepTo_cor hh hnc hl hc e h2)
  obtain ⟨al, ap, ac, cl, cp, cc, rfl, rfl, rfl⟩ := ha.parts
  obtain ⟨nl, hnl⟩ : ∃ q, q = h.led.length := ⟨_, rfl⟩
  obtain ⟨np, hnp'⟩ : ∃ q, q = h.pres.length := ⟨_, rfl⟩
  obtain ⟨nc, hnc'⟩ : ∃ q, q = h.cors.length := ⟨_, rfl⟩
  rw [← hnl, ← hnp', ← hnc'] at HA0 HRP HRC ⊢
  obtain ⟨VN, hVN⟩ : ∃ V : Int → Int, V = fun r => versM r h.pres + 1 := ⟨_, rfl⟩
  obtain ⟨RM, hRM⟩ : ∃ V : Int → Stm, V = fun r => restM r h := ⟨_, rfl⟩
  obtain ⟨PP, hPP⟩ : ∃ V : Int → List Prs, V = fun r => h.pres ++ [presP h r] := ⟨_, rfl⟩
  obtain ⟨C, hC⟩ : ∃ V, V = h.cors := ⟨_, rfl⟩
  have HPP := Lib.hid (fun r => (congrFun hPP r : PP r = h.pres ++ [presP h r]))
  have HRQ : Hid (∀ (r : Int) (hr : 0 ≤ r ∧ r < 4) (W : World) (hW : HstAt W (.slice al nl cl) (.slice ap np cp) (.slice ac nc cc) h), Calls Try.prog 24 #[.agg #[.slice al nl cl, .slice ap np cp, .slice ac nc cc], .int .i64 r] W fun e w' => ∃ u, e = .returned (.tuple #[.agg #[.slice al nl cl, u, .slice ac nc cc], .agg #[.int .i64 r, .int .i64 (VN r), .int .i64 (RM r).ast, .int .i64 (RM r).lia, .int .i64 (RM r).wor, .int .i64 (RM r).rev, .int .i64 (RM r).exp], .int .i64 0]) ∧ ListAt prsC 7 w' u (PP r) ∧ Below W.heap.size W w') := Lib.hid fun r hr W hW => (HRP.out r hr W hW).mono fun e w' ⟨u, h1, h2, h3⟩ => ⟨u, by rw [h1, hVN, hRM]; rfl, by rw [hPP]; exact h2, h3⟩
  have HCE := Lib.hid hC
  rw [← hC] at HRC
  have HCN : Hid (∀ r, (PP r) = h.pres ++ [presP h r]) := HPP
  have HV1 : Hid (∀ r, (presP h r).ver ≠ 0) := Lib.hid fun r => by
    have := (versM_len r h.pres).1
    show versM r h.pres + 1 ≠ 0
    omega
  have HSR := Lib.hid hs
  clear hnl hnp' hnc' hVN hRM hPP hC hh hnc hnp hl ha hs HRP
  obtain ⟨w0, hw0⟩ : ∃ w0, w0 = (w.alloc (.cells #[.slice al nl cl, .slice ap np cp, .slice ac nc cc] 31)).alloc (.cells #[.slice none 0 0, .slice none 0 0, .slice none 0 0] 31) := ⟨_, rfl⟩
  obtain ⟨bH, hbH⟩ : ∃ b, b = w.heap.size := ⟨_, rfl⟩
  obtain ⟨bR, hbR⟩ : ∃ b, b = w.heap.size + 1 := ⟨_, rfl⟩
  have HH0 : Hid (w0.heap[bH]? = some (.cells #[.slice al nl cl, .slice ap np cp, .slice ac nc cc] 31 (0, 0))) := Lib.hid (by rw [hw0, hbH]; exact alloc1_at w _ _)
  have HR0 : Hid (w0.heap[bR]? = some (.cells #[.slice none 0 0, .slice none 0 0, .slice none 0 0] 31 (0, 0))) := Lib.hid (by rw [hw0, hbR]; exact alloc2_at w _ _)
  have HI0 : Hid (SI w tb w0) := Lib.hid (by rw [hw0]; exact ((si_start HSR.out).alloc _).alloc _)
  have HNE : Hid (bH ≠ tb ∧ bR ≠ tb ∧ tb < w.heap.size) := Lib.hid ⟨by omega, by omega, hlt⟩
  have HLR : Hid (w.heap.size ≤ bR) := Lib.hid (by omega)
  have HA : Hid (∀ W, SI w tb W → HstAt W (.slice al nl cl) (.slice ap np cp) (.slice ac nc cc) h) := HA0
  have HW0 := Lib.hid hw0
  have HBH := Lib.hid hbH
  have HBR := Lib.hid hbR
  clear hw0 hbH hbR HA0
  go_enter Try.func10, Try.ntmps10
  go_upto_region 1 with fail
  rw [← HW0.out, ← HBR.out, ← HBH.out]
  go_wp2_with fail
  refine (n_in HI0.out 2 (by omega) (by omega)).mono ?_
  rintro e w1 ⟨r0, rfl, r00, r01, hi1, hg1⟩
  have HI1 := Lib.hid hi1
  have HH1 := Lib.hid (obj_turn HH0.out hg1 HNE.out.1)
  have HR1 := Lib.hid (obj_turn HR0.out hg1 HNE.out.2.1)
  clear hi1 hg1 HI0 HH0 HR0
  by_cases hr0 : r0 = 0
  · subst hr0
    obtain ⟨J, hJ⟩ : ∃ J, J = fun W : World => SI w1 tb W := ⟨_, rfl⟩
    have HJO : Hid (∀ W, J W → SI w1 tb W) := Lib.hid fun W hW => by rw [hJ] at hW; exact hW
    have HJI : Hid (∀ W, SI w1 tb W → J W) := Lib.hid fun W hW => by rw [hJ]; exact hW
    have HJD : Hid (∀ W, J W → J W.drew) := Lib.hid fun W hW => HJI.out _ ((HJO.out W hW).drew)
    have HJA : Hid (∀ W o, J W → J (W.alloc o)) := Lib.hid fun W o hW => HJI.out _ ((HJO.out W hW).alloc o)
    have HJ0 : Hid (J w1) := Lib.hid (HJI.out _ (si_start HI1.out.src))
    have HTN : Hid (∀ b, w1.heap.size ≤ b → b ≠ tb) := Lib.hid fun b hb e => by have := HI1.out.src.lt; omega
    have HMH : Hid (∀ W, J W → ∀ j, W.cell? ⟨bH, j, none⟩ = #[.slice al nl cl, .slice ap np cp, .slice ac nc cc][j]?) := Lib.hid fun W hW j => obj_cell (obj_turn HH1.out (HJO.out W hW).old HNE.out.1) j
    have HAT : Hid (∀ W, J W → HstAt W (.slice al nl cl) (.slice ap np cp) (.slice ac nc cc) h) := Lib.hid fun W hW => HA.out W ⟨(HJO.out W hW).src, grown_step HI1.out.old (HJO.out W hW).old, HNE.out.2.2⟩
    have HNN : Hid (∀ W, J W → Calls Try.prog 21 #[.pointer (some ⟨tb, 0, none⟩), .int .i64 4] W fun e w' => ∃ rn, e = .returned (.int .i64 rn) ∧ (0 ≤ rn ∧ rn < 4) ∧ J w' ∧ SrcAt W tb ∧ W.grownBy w' (some tb)) := Lib.hid fun W hW => (n_in (HJO.out W hW) 4 (by omega) (by omega)).mono fun e w' ⟨r, h1, h2, h3, h4, h5⟩ => ⟨r, h1, ⟨h2, h3⟩, HJI.out _ h4, (HJO.out W hW).src, h5⟩
    have HPR : Hid (∀ (r : Int) W, J W → (0 ≤ r ∧ r < 4) → Calls Try.prog 24 #[.agg #[.slice al nl cl, .slice ap np cp, .slice ac nc cc], .int .i64 r] W fun e w' => ∃ (rn : Int) (un : Value), e = .returned (.tuple #[.agg #[.slice al nl cl, un, .slice ac nc cc], .agg #[.int .i64 rn, .int .i64 (VN rn), .int .i64 (RM rn).ast, .int .i64 (RM rn).lia, .int .i64 (RM rn).wor, .int .i64 (RM rn).rev, .int .i64 (RM rn).exp], .int .i64 0]) ∧ (0 ≤ rn ∧ rn < 4) ∧ ListAt prsC 7 w' un (PP rn) ∧ J w' ∧ Below W.heap.size W w') := Lib.hid fun r W hW hr => (HRQ.out r hr W (HAT.out W hW)).mono fun e w' ⟨u, h1, h2, h3⟩ => ⟨r, u, h1, hr, h2, HJI.out _ ((HJO.out W hW).below h3), h3⟩
    have HKF : Hid (∀ (rn : Int) (u : Value) (b8 b9 : Nat) (W : World), J W → W.heap[b8]? = some (.cells #[.slice none 0 0, .slice none 0 0, .slice none 0 0] 31 (0, 0)) → W.heap[b9]? = some (.cells #[.int .i64 0, .int .i64 0, .int .i64 0, .int .i64 0, .int .i64 0, .int .i64 0, .int .i64 0] 40 (0, 0)) → w1.heap.size ≤ b8 → w1.heap.size ≤ b9 → ListAt prsC 7 W u (PP rn) → (0 ≤ rn ∧ rn < 4) → StK w1 tb b8 b9 (.slice al nl cl) (.slice ac nc cc) u #[.int .i64 0, .int .i64 0, .int .i64 0, .int .i64 0, .int .i64 0, .int .i64 0, .int .i64 0] (PP rn) (put3 W b8 (.slice al nl cl) u (.slice ac nc cc))) := Lib.hid fun rn u b8 b9 W hW h8 h9 l8 l9 hr hrn => by
      rw [HCN.out] at hr ⊢
      exact StK.first (HJO.out W hW) h8 h9 l8 l9 hr (HV1.out rn)
    have egN := enters_of Try.func21 (by kernel_rfl) rfl
    have egP := enters_of Try.func24 (by kernel_rfl) rfl
    clear hJ
    go_upto_region 2 with fail
    obtain ⟨P, hP⟩ : ∃ P : Nat → Value → World → Prop, P = fun j v W => match j with | 0 => (v = .agg #[.slice al nl cl, .slice ap np cp, .slice ac nc cc]) | 1 => (v = .pointer (some ⟨tb, 0, none⟩)) | 2 => (∃ rn, v = .int .i64 rn ∧ (0 ≤ rn ∧ rn < 4)) | 3 => (∃ rn un, v = .tuple #[.agg #[.slice al nl cl, un, .slice ac nc cc], .agg #[.int .i64 rn, .int .i64 (VN rn), .int .i64 (RM rn).ast, .int .i64 (RM rn).lia, .int .i64 (RM rn).wor, .int .i64 (RM rn).rev, .int .i64 (RM rn).exp], .int .i64 0] ∧ (0 ≤ rn ∧ rn < 4) ∧ ListAt prsC 7 W un (PP rn)) | 4 => (∃ rn un, v = .tuple #[.agg #[.slice al nl cl, un, .slice ac nc cc], .agg #[.int .i64 rn, .int .i64 (VN rn), .int .i64 (RM rn).ast, .int .i64 (RM rn).lia, .int .i64 (RM rn).wor, .int .i64 (RM rn).rev, .int .i64 (RM rn).exp], .int .i64 0] ∧ (0 ≤ rn ∧ rn < 4) ∧ ListAt prsC 7 W un (PP rn)) | 5 => (∃ rn un, v = .agg #[.slice al nl cl, un, .slice ac nc cc] ∧ (0 ≤ rn ∧ rn < 4) ∧ ListAt prsC 7 W un (PP rn)) | 6 => (∃ rn, v = .agg #[.int .i64 rn, .int .i64 (VN rn), .int .i64 (RM rn).ast, .int .i64 (RM rn).lia, .int .i64 (RM rn).wor, .int .i64 (RM rn).rev, .int .i64 (RM rn).exp] ∧ (0 ≤ rn ∧ rn < 4)) | 7 => (v = .int .i64 0) | 8 => (∃ b8, v = .pointer (some ⟨b8, 0, none⟩) ∧ (w1.heap.size ≤ b8 ∧ W.heap[b8]? = some (.cells #[.slice none 0 0, .slice none 0 0, .slice none 0 0] 31 (0, 0)))) | 9 => (∃ b9, v = .pointer (some ⟨b9, 0, none⟩) ∧ (w1.heap.size ≤ b9 ∧ W.heap[b9]? = some (.cells #[.int .i64 0, .int .i64 0, .int .i64 0, .int .i64 0, .int .i64 0, .int .i64 0, .int .i64 0] 40 (0, 0)))) | _ => True := ⟨_, rfl⟩
    have HPI0 : Hid (∀ v W, P 0 v W ↔ (v = .agg #[.slice al nl cl, .slice ap np cp, .slice ac nc cc])) := Lib.hid fun v W => by rw [hP] <;> exact Iff.rfl
    have HPI1 : Hid (∀ v W, P 1 v W ↔ (v = .pointer (some ⟨tb, 0, none⟩))) := Lib.hid fun v W => by rw [hP] <;> exact Iff.rfl
    have HPI2 : Hid (∀ v W, P 2 v W ↔ (∃ rn, v = .int .i64 rn ∧ (0 ≤ rn ∧ rn < 4))) := Lib.hid fun v W => by rw [hP] <;> exact Iff.rfl
    have HPI3 : Hid (∀ v W, P 3 v W ↔ (∃ rn un, v = .tuple #[.agg #[.slice al nl cl, un, .slice ac nc cc], .agg #[.int .i64 rn, .int .i64 (VN rn), .int .i64 (RM rn).ast, .int .i64 (RM rn).lia, .int .i64 (RM rn).wor, .int .i64 (RM rn).rev, .int .i64 (RM rn).exp], .int .i64 0] ∧ (0 ≤ rn ∧ rn < 4) ∧ ListAt prsC 7 W un (PP rn))) := Lib.hid fun v W => by rw [hP] <;> exact Iff.rfl
    have HPI4 : Hid (∀ v W, P 4 v W ↔ (∃ rn un, v = .tuple #[.agg #[.slice al nl cl, un, .slice ac nc cc], .agg #[.int .i64 rn, .int .i64 (VN rn), .int .i64 (RM rn).ast, .int .i64 (RM rn).lia, .int .i64 (RM rn).wor, .int .i64 (RM rn).rev, .int .i64 (RM rn).exp], .int .i64 0] ∧ (0 ≤ rn ∧ rn < 4) ∧ ListAt prsC 7 W un (PP rn))) := Lib.hid fun v W => by rw [hP] <;> exact Iff.rfl
    have HPI5 : Hid (∀ v W, P 5 v W ↔ (∃ rn un, v = .agg #[.slice al nl cl, un, .slice ac nc cc] ∧ (0 ≤ rn ∧ rn < 4) ∧ ListAt prsC 7 W un (PP rn))) := Lib.hid fun v W => by rw [hP] <;> exact Iff.rfl
    have HPI6 : Hid (∀ v W, P 6 v W ↔ (∃ rn, v = .agg #[.int .i64 rn, .int .i64 (VN rn), .int .i64 (RM rn).ast, .int .i64 (RM rn).lia, .int .i64 (RM rn).wor, .int .i64 (RM rn).rev, .int .i64 (RM rn).exp] ∧ (0 ≤ rn ∧ rn < 4))) := Lib.hid fun v W => by rw [hP] <;> exact Iff.rfl
    have HPI7 : Hid (∀ v W, P 7 v W ↔ (v = .int .i64 0)) := Lib.hid fun v W => by rw [hP] <;> exact Iff.rfl
    have HPI8 : Hid (∀ v W, P 8 v W ↔ (∃ b8, v = .pointer (some ⟨b8, 0, none⟩) ∧ (w1.heap.size ≤ b8 ∧ W.heap[b8]? = some (.cells #[.slice none 0 0, .slice none 0 0, .slice none 0 0] 31 (0, 0))))) := Lib.hid fun v W => by rw [hP] <;> exact Iff.rfl
    have HPI9 : Hid (∀ v W, P 9 v W ↔ (∃ b9, v = .pointer (some ⟨b9, 0, none⟩) ∧ (w1.heap.size ≤ b9 ∧ W.heap[b9]? = some (.cells #[.int .i64 0, .int .i64 0, .int .i64 0, .int .i64 0, .int .i64 0, .int .i64 0, .int .i64 0] 40 (0, 0))))) := Lib.hid fun v W => by rw [hP] <;> exact Iff.rfl
    have HKP : Hid (∀ (j : Nat) v W W', Below W.heap.size W W' → P j v W → P j v W') := Lib.hid (by
      rw [hP]
      intro j v W W' hb h
      match j, h with
      | 0, h => exact h
      | 1, h => exact h
      | 2, ⟨rn, e, s0⟩ => exact ⟨rn, e, s0⟩
      | 3, ⟨rn, un, e, s0, s1⟩ => exact ⟨rn, un, e, s0, ListAt.below s1 hb⟩
      | 4, ⟨rn, un, e, s0, s1⟩ => exact ⟨rn, un, e, s0, ListAt.below s1 hb⟩
      | 5, ⟨rn, un, e, s0, s1⟩ => exact ⟨rn, un, e, s0, ListAt.below s1 hb⟩
      | 6, ⟨rn, e, s0⟩ => exact ⟨rn, e, s0⟩
      | 7, h => exact h
      | 8, ⟨b8, e, s0⟩ => exact ⟨b8, e, ⟨s0.1, obj_below s0.2 hb⟩⟩
      | 9, ⟨b9, e, s0⟩ => exact ⟨b9, e, ⟨s0.1, obj_below s0.2 hb⟩⟩
      | j + 10, _ => trivial)
    have HKT : Hid (∀ (j : Nat) v W W', SrcAt W tb → W.grownBy W' (some tb) → P j v W → P j v W') := Lib.hid (by
      rw [hP]
      intro j v W W' hs hg h
      match j, h with
      | 0, h => exact h
      | 1, h => exact h
      | 2, ⟨rn, e, s0⟩ => exact ⟨rn, e, s0⟩
      | 3, ⟨rn, un, e, s0, s1⟩ => exact ⟨rn, un, e, s0, prs_turn s1 hs hg⟩
      | 4, ⟨rn, un, e, s0, s1⟩ => exact ⟨rn, un, e, s0, prs_turn s1 hs hg⟩
      | 5, ⟨rn, un, e, s0, s1⟩ => exact ⟨rn, un, e, s0, prs_turn s1 hs hg⟩
      | 6, ⟨rn, e, s0⟩ => exact ⟨rn, e, s0⟩
      | 7, h => exact h
      | 8, ⟨b8, e, s0⟩ => exact ⟨b8, e, ⟨s0.1, obj_turn s0.2 hg (HTN.out _ s0.1)⟩⟩
      | 9, ⟨b9, e, s0⟩ => exact ⟨b9, e, ⟨s0.1, obj_turn s0.2 hg (HTN.out _ s0.1)⟩⟩
      | j + 10, _ => trivial)
    clear hP
    go_cut [8, 10] (fun xv ev wx => ∃ (rn : Int) (un : Value) (b8 : Nat), xv = .pointer (some ⟨b8, 0, none⟩) ∧ ev = .int .i64 0 ∧ (0 ≤ rn ∧ rn < 4) ∧ Hid (w1.heap.size ≤ b8) ∧ Hid (SI w1 tb wx) ∧ Hid (wx.heap[b8]? = some (.cells #[.slice al nl cl, un, .slice ac nc cc] 31 (0, 0))) ∧ Hid (ListAt prsC 7 wx un (PP rn)))
    case first =>
      refine wp_region_phase [17, 18, 19, 20, 16, 21, 22, 23, 8, 9, 10] (slotS [17, 18, 19, 20, 16, 21, 22, 23, 8, 9, 9989, 9988, 10]) (readsS [17, 18, 19, 20, 16, 21, 22, 23, 8, 9, 9989, 9988, 10]) (RP [17, 18, 19, 20, 16, 21, 22, 23, 8, 9, 9989, 9988, 10] P) J (fun L f W => ∃ (rn : Int) (un : Value) (b8 b9 : Nat) (c9 : Array Value), StK w1 tb b8 b9 (.slice al nl cl) (.slice ac nc cc) un c9 (PP rn) W ∧ (0 ≤ rn ∧ rn < 4) ∧ (∃ (r' : Int) (u' : Value), f 16 = .tuple #[.agg #[.slice al nl cl, u', .slice ac nc cc], .agg #[.int .i64 r', .int .i64 (VN r'), .int .i64 (RM r').ast, .int .i64 (RM r').lia, .int .i64 (RM r').wor, .int .i64 (RM r').rev, .int .i64 (RM r').exp], .int .i64 0]) ∧ f 8 = .pointer (some ⟨b8, 0, none⟩) ∧ f 9 = .pointer (some ⟨b9, 0, none⟩) ∧ (L.getD 6 false = true → ∃ r' : Int, f 22 = .agg #[.int .i64 r', .int .i64 (VN r'), .int .i64 (RM r').ast, .int .i64 (RM r').lia, .int .i64 (RM r').wor, .int .i64 (RM r').rev, .int .i64 (RM r').exp]) ∧ (L.getD 7 false = true → f 23 = .int .i64 0) ∧ (L.getD 12 false = true → f 10 = .int .i64 0)) 10 8 [6, 7] (show 10 < 13 from by decide) (by kernel_rfl) (by kernel_rfl) (by kernel_rfl) (by kernel_rfl) (by kernel_rfl) (HJD.out _ HJ0.out) (fun j f q v W hq h => RP.upd hq h) ?_ ?_ ?_ ?_
      case refine_1 =>
        intro iq hiq f W hIW hdep0
        have hiq' : iq < 10 := hiq
        have hdep : ∀ j, j < 10 → depB _ iq j = true → P j (f (slotS [17, 18, 19, 20, 16, 21, 22, 23, 8, 9, 9989, 9988, 10] j)) W := hdep0
        clear hdep0
        generalize ha1 : putsL _ [17, 18, 19, 20, 16, 21, 22, 23, 8, 9, 10] f = a1
        match iq, hiq', hdep with
        | 0, _, hdep0 =>
          have E4 : a1.tmps[4]?.getD undef = .pointer (some ⟨bH, 0, none⟩) := by rw [← ha1]; exact (putsL_out2 _ _ _ _ (by decide)).trans rfl
          have v0 : W.cell? ⟨bH, 0, none⟩ = some (.slice al nl cl) := by simpa using HMH.out W hIW 0
          have v1 : W.cell? ⟨bH, 1, none⟩ = some (.slice ap np cp) := by simpa using HMH.out W hIW 1
          have v2 : W.cell? ⟨bH, 2, none⟩ = some (.slice ac nc cc) := by simpa using HMH.out W hIW 2
          exact wpOp_val rfl rfl (v := .agg #[.slice al nl cl, .slice ap np cp, .slice ac nc cc]) (w' := W) (by simp [execOp, go_sem, E4, v0, v1, v2]) ⟨hIW, fun _ h => h, _, by decide, rfl, RP.set ((HPI0.out _ _).2 rfl)⟩
        | 1, _, hdep0 =>
          have E0 : a1.tmps[0]?.getD undef = .pointer (some ⟨tb, 0, none⟩) := by rw [← ha1]; exact (putsL_out2 _ _ _ _ (by decide)).trans rfl
          exact wpOp_val rfl rfl (v := .pointer (some ⟨tb, 0, none⟩)) (w' := W) (by simp [execOp, go_sem, E0]) ⟨hIW, fun _ h => h, _, by decide, rfl, RP.set ((HPI1.out _ _).2 rfl)⟩
        | 2, _, hdep0 =>
          have hd1 := (HPI1.out _ _).1 (hdep0 1 (by decide) (by kernel_rfl))
          have E18 : a1.tmps[18]?.getD undef = .pointer (some ⟨tb, 0, none⟩) := by rw [← ha1]; exact (putsL_in2 _ _ _ _ (by decide) (show 18 < 48 from by decide)).trans hd1
          refine wpOp_call rfl rfl (n := 21) (vs := #[.pointer (some ⟨tb, 0, none⟩), .int .i64 4]) (by have := egN #[.pointer (some ⟨tb, 0, none⟩), .int .i64 4] W; simp [execOp, E18, resolve, invoke, go_sem] <;> exact this) ((HNN.out W hIW).mono fun e w' hh => (by obtain ⟨rn, rfl, p0, hJ', hb'⟩ := hh; exact ⟨_, rfl, (HPI2.out _ _).2 ⟨_, rfl, p0⟩, hJ', hb'⟩ : ∃ v, e = .returned v ∧ (P 2 v w' ∧ J w' ∧ SrcAt W tb ∧ W.grownBy w' (some tb)))) ?_
          rintro v w' ⟨hv, hI', hb'⟩
          exact ⟨hI', fun j h => HKT.out j _ _ _ hb'.1 hb'.2 h, _, by decide, rfl, RP.set hv⟩
        | 3, _, hdep0 =>
          have hd0 := (HPI0.out _ _).1 (hdep0 0 (by decide) (by kernel_rfl))
          have hd2 := (HPI2.out _ _).1 (hdep0 2 (by decide) (by kernel_rfl))
          have E17 : a1.tmps[17]?.getD undef = .agg #[.slice al nl cl, .slice ap np cp, .slice ac nc cc] := by rw [← ha1]; exact (putsL_in2 _ _ _ _ (by decide) (show 17 < 48 from by decide)).trans hd0
          obtain ⟨rn, q2, r2_0⟩ := hd2
          have E19 : a1.tmps[19]?.getD undef = .int .i64 rn := by rw [← ha1]; exact (putsL_in2 _ _ _ _ (by decide) (show 19 < 48 from by decide)).trans q2
          refine wpOp_call rfl rfl (n := 24) (vs := #[.agg #[.slice al nl cl, .slice ap np cp, .slice ac nc cc], .int .i64 rn]) (by have := egP #[.agg #[.slice al nl cl, .slice ap np cp, .slice ac nc cc], .int .i64 rn] W; simp [execOp, E17, E19, resolve, invoke, go_sem] <;> exact this) ((HPR.out rn W hIW r2_0).mono fun e w' hh => (by obtain ⟨rn, un, rfl, p0, p1, hJ', hb'⟩ := hh; exact ⟨_, rfl, (HPI3.out _ _).2 ⟨_, _, rfl, p0, p1⟩, hJ', hb'⟩ : ∃ v, e = .returned v ∧ (P 3 v w' ∧ J w' ∧ Below W.heap.size W w'))) ?_
          rintro v w' ⟨hv, hI', hb'⟩
          exact ⟨hI', fun j h => HKP.out j _ _ _ hb' h, _, by decide, rfl, RP.set hv⟩
        | 4, _, hdep0 =>
          have hd3 := (HPI3.out _ _).1 (hdep0 3 (by decide) (by kernel_rfl))
          obtain ⟨rn, un, q3, r3_0, r3_1⟩ := hd3
          have E20 : a1.tmps[20]?.getD undef = .tuple #[.agg #[.slice al nl cl, un, .slice ac nc cc], .agg #[.int .i64 rn, .int .i64 (VN rn), .int .i64 (RM rn).ast, .int .i64 (RM rn).lia, .int .i64 (RM rn).wor, .int .i64 (RM rn).rev, .int .i64 (RM rn).exp], .int .i64 0] := by rw [← ha1]; exact (putsL_in2 _ _ _ _ (by decide) (show 20 < 48 from by decide)).trans q3
          exact wpOp_val rfl rfl (v := .tuple #[.agg #[.slice al nl cl, un, .slice ac nc cc], .agg #[.int .i64 rn, .int .i64 (VN rn), .int .i64 (RM rn).ast, .int .i64 (RM rn).lia, .int .i64 (RM rn).wor, .int .i64 (RM rn).rev, .int .i64 (RM rn).exp], .int .i64 0]) (w' := W) (by simp [execOp, go_sem, E20]) ⟨hIW, fun _ h => h, _, by decide, rfl, RP.set ((HPI4.out _ _).2 ⟨_, _, rfl, r3_0, r3_1⟩)⟩
        | 5, _, hdep0 =>
          have hd4 := (HPI4.out _ _).1 (hdep0 4 (by decide) (by kernel_rfl))
          obtain ⟨rn, un, q4, r4_0, r4_1⟩ := hd4
          have E16 : a1.tmps[16]?.getD undef = .tuple #[.agg #[.slice al nl cl, un, .slice ac nc cc], .agg #[.int .i64 rn, .int .i64 (VN rn), .int .i64 (RM rn).ast, .int .i64 (RM rn).lia, .int .i64 (RM rn).wor, .int .i64 (RM rn).rev, .int .i64 (RM rn).exp], .int .i64 0] := by rw [← ha1]; exact (putsL_in2 _ _ _ _ (by decide) (show 16 < 48 from by decide)).trans q4
          exact wpOp_val rfl rfl (v := .agg #[.slice al nl cl, un, .slice ac nc cc]) (w' := W) (by simp [execOp, go_sem, E16]) ⟨hIW, fun _ h => h, _, by decide, rfl, RP.set ((HPI5.out _ _).2 ⟨_, _, rfl, r4_0, r4_1⟩)⟩
        | 6, _, hdep0 =>
          have hd4 := (HPI4.out _ _).1 (hdep0 4 (by decide) (by kernel_rfl))
          obtain ⟨rn, un, q4, r4_0, r4_1⟩ := hd4
          have E16 : a1.tmps[16]?.getD undef = .tuple #[.agg #[.slice al nl cl, un, .slice ac nc cc], .agg #[.int .i64 rn, .int .i64 (VN rn), .int .i64 (RM rn).ast, .int .i64 (RM rn).lia, .int .i64 (RM rn).wor, .int .i64 (RM rn).rev, .int .i64 (RM rn).exp], .int .i64 0] := by rw [← ha1]; exact (putsL_in2 _ _ _ _ (by decide) (show 16 < 48 from by decide)).trans q4
          exact wpOp_val rfl rfl (v := .agg #[.int .i64 rn, .int .i64 (VN rn), .int .i64 (RM rn).ast, .int .i64 (RM rn).lia, .int .i64 (RM rn).wor, .int .i64 (RM rn).rev, .int .i64 (RM rn).exp]) (w' := W) (by simp [execOp, go_sem, E16]) ⟨hIW, fun _ h => h, _, by decide, rfl, RP.set ((HPI6.out _ _).2 ⟨_, rfl, r4_0⟩)⟩
        | 7, _, hdep0 =>
          have hd4 := (HPI4.out _ _).1 (hdep0 4 (by decide) (by kernel_rfl))
          obtain ⟨rn, un, q4, r4_0, r4_1⟩ := hd4
          have E16 : a1.tmps[16]?.getD undef = .tuple #[.agg #[.slice al nl cl, un, .slice ac nc cc], .agg #[.int .i64 rn, .int .i64 (VN rn), .int .i64 (RM rn).ast, .int .i64 (RM rn).lia, .int .i64 (RM rn).wor, .int .i64 (RM rn).rev, .int .i64 (RM rn).exp], .int .i64 0] := by rw [← ha1]; exact (putsL_in2 _ _ _ _ (by decide) (show 16 < 48 from by decide)).trans q4
          exact wpOp_val rfl rfl (v := .int .i64 0) (w' := W) (by simp [execOp, go_sem, E16]) ⟨hIW, fun _ h => h, _, by decide, rfl, RP.set ((HPI7.out _ _).2 rfl)⟩
        | 8, _, hdep0 =>
          exact wpOp_val rfl rfl (v := .pointer (some ⟨W.heap.size, 0, none⟩)) (w' := W.alloc (.cells #[.slice none 0 0, .slice none 0 0, .slice none 0 0] 31)) (by simp [execOp, go_sem]) ⟨(HJA.out _ _ hIW), fun j h => HKP.out j _ _ _ (below_alloc _ _) h, _, by decide, rfl, RP.set ((HPI8.out _ _).2 ⟨_, rfl, (HJO.out _ hIW).old.size, heap_alloc_new _ _⟩)⟩
        | 9, _, hdep0 =>
          exact wpOp_val rfl rfl (v := .pointer (some ⟨W.heap.size, 0, none⟩)) (w' := W.alloc (.cells #[.int .i64 0, .int .i64 0, .int .i64 0, .int .i64 0, .int .i64 0, .int .i64 0, .int .i64 0] 40)) (by simp [execOp, go_sem]) ⟨(HJA.out _ _ hIW), fun j h => HKP.out j _ _ _ (below_alloc _ _) h, _, by decide, rfl, RP.set ((HPI9.out _ _).2 ⟨_, rfl, (HJO.out _ hIW).old.size, heap_alloc_new _ _⟩)⟩
        | iq + 10, h, _ => exact absurd h (by omega)
      case refine_2 =>
        intro L f W hLs hLn hIW hR hE hLz
        have hQ : ∀ j, j < 10 → L.getD j false = true → P j (f (slotS [17, 18, 19, 20, 16, 21, 22, 23, 8, 9, 9989, 9988, 10] j)) W := hR
        clear hR
        generalize ha1 : putsL _ [17, 18, 19, 20, 16, 21, 22, 23, 8, 9, 10] f = a1
        obtain ⟨r4, u4, q4, -, -⟩ := (HPI4.out _ _).1 (hQ 4 (by decide) (hE 4 (by decide) rfl))
        obtain ⟨rn, un, q5, hrn, hrow⟩ := (HPI5.out _ _).1 (hQ 5 (by decide) (hE 5 (by decide) rfl))
        obtain ⟨b8, q8, l8, hx8⟩ := (HPI8.out _ _).1 (hQ 8 (by decide) (hE 8 (by decide) rfl))
        obtain ⟨b9, q9, l9, hx9⟩ := (HPI9.out _ _).1 (hQ 9 (by decide) (hE 9 (by decide) rfl))
        have h6 : L.getD 6 false = true → ∃ r' : Int, f 22 = .agg #[.int .i64 r', .int .i64 (VN r'), .int .i64 (RM r').ast, .int .i64 (RM r').lia, .int .i64 (RM r').wor, .int .i64 (RM r').rev, .int .i64 (RM r').exp] := fun h => by
          obtain ⟨r', q, -⟩ := (HPI6.out _ _).1 (hQ 6 (by decide) h)
          exact ⟨r', q⟩
        have h7 : L.getD 7 false = true → f 23 = .int .i64 0 := fun h => (HPI7.out _ _).1 (hQ 7 (by decide) h)
        have h12 := hLz 12 (by decide) (show 12 < 13 from by decide)
        have hls : L.size = 13 := hLs
        have hl : ∀ j, j ≠ 10 → (L.setIfInBounds 10 true).getD j false = L.getD j false := fun j hj => by rw [flag_set _ _ _ (by omega), if_neg (fun e => hj e.symm)]
        obtain ⟨au, cu, rfl, -, -⟩ := hrow.shape prsF
        have E8 : a1.tmps[8]?.getD undef = .pointer (some ⟨b8, 0, none⟩) := by rw [← ha1]; exact (putsL_in2 _ _ _ _ (by decide) (show 8 < 48 from by decide)).trans q8
        have E21 : a1.tmps[21]?.getD undef = .agg #[.slice al nl cl, .slice au (PP rn).length cu, .slice ac nc cc] := by rw [← ha1]; exact (putsL_in2 _ _ _ _ (by decide) (show 21 < 48 from by decide)).trans q5
        have p0 := obj_cell hx8 0
        have p1 := obj_cell hx8 1
        have p2 := obj_cell hx8 2
        have f0 := obj_free hx8 0
        have f1 := obj_free hx8 1
        have f2 := obj_free hx8 2
        simp at p0 p1 p2
        have hkk := HKF.out rn _ b8 b9 W hIW hx8 hx9 l8 l9 hrow hrn
        have h6' : (L.setIfInBounds 10 true).getD 6 false = true → ∃ r' : Int, f 22 = .agg #[.int .i64 r', .int .i64 (VN r'), .int .i64 (RM r').ast, .int .i64 (RM r').lia, .int .i64 (RM r').wor, .int .i64 (RM r').rev, .int .i64 (RM r').exp] := fun h => by rw [hl 6 (by decide)] at h; exact h6 h
        have h7' : (L.setIfInBounds 10 true).getD 7 false = true → f 23 = .int .i64 0 := fun h => by rw [hl 7 (by decide)] at h; exact h7 h
        have h12' : (L.setIfInBounds 10 true).getD 12 false = true → f 10 = .int .i64 0 := fun h => by rw [hl 12 (by decide), h12] at h; cases h
        have q16 : ∃ (r' : Int) (u' : Value), f 16 = .tuple #[.agg #[.slice al nl cl, u', .slice ac nc cc], .agg #[.int .i64 r', .int .i64 (VN r'), .int .i64 (RM r').ast, .int .i64 (RM r').lia, .int .i64 (RM r').wor, .int .i64 (RM r').rev, .int .i64 (RM r').exp], .int .i64 0] := ⟨r4, u4, q4⟩
        exact wpOp_skip rfl rfl (w' := put3 W b8 (.slice al nl cl) (.slice au (PP rn).length cu) (.slice ac nc cc)) (by unfold put3; simp [execOp, go_sem, E8, E21, p0, p1, p2, f0, f1, f2]) ⟨rfl, rn, _, b8, b9, _, hkk, hrn, q16, q8, q9, h6', h7', h12'⟩
      case refine_3 =>
        intro i hi hor L f W hLs hK hLn hdep
        have hin : i < 13 := hi
        rcases (show i = 6 ∨ i = 7 ∨ i = 11 ∨ i = 12 by first | (rcases hor with hor | hor <;> first | omega | (simp at hor; omega))) with rfl | rfl | rfl | rfl
        · clear hi hor hin
          have hls : L.size = 13 := hLs
          have hl : ∀ j, j ≠ 6 → (L.setIfInBounds 6 true).getD j false = L.getD j false := fun j hj => by rw [flag_set _ _ _ (by omega), if_neg (fun e => hj e.symm)]
          generalize ha1 : putsL _ [17, 18, 19, 20, 16, 21, 22, 23, 8, 9, 10] f = a1
          obtain ⟨rn, un, b8, b9, c9, hkk, hrn, ⟨r', u', h16⟩, h8, h9, h6, h7, h12⟩ := hK
          have E16 : a1.tmps[16]?.getD undef = .tuple #[.agg #[.slice al nl cl, u', .slice ac nc cc], .agg #[.int .i64 r', .int .i64 (VN r'), .int .i64 (RM r').ast, .int .i64 (RM r').lia, .int .i64 (RM r').wor, .int .i64 (RM r').rev, .int .i64 (RM r').exp], .int .i64 0] := by rw [← ha1]; exact (putsL_in2 _ _ _ _ (by decide) (show 16 < 48 from by decide)).trans h16
          exact wpOp_val rfl rfl (v := .agg #[.int .i64 r', .int .i64 (VN r'), .int .i64 (RM r').ast, .int .i64 (RM r').lia, .int .i64 (RM r').wor, .int .i64 (RM r').rev, .int .i64 (RM r').exp]) (w' := W) (by simp [execOp, go_sem, E16]) ⟨updF f 22 (.agg #[.int .i64 r', .int .i64 (VN r'), .int .i64 (RM r').ast, .int .i64 (RM r').lia, .int .i64 (RM r').wor, .int .i64 (RM r').rev, .int .i64 (RM r').exp]), by rw [← ha1]; exact putsL_put _ _ _ _ _ (by decide), rn, un, b8, b9, c9, hkk, hrn, ⟨r', u', (updF_other _ _ (by decide)).trans h16⟩, (updF_other _ _ (by decide)).trans h8, (updF_other _ _ (by decide)).trans h9, (fun _ => ⟨r', updF_same _ _ _⟩), (fun h => by rw [hl 7 (by decide)] at h; rw [updF_other _ _ (by decide)]; exact h7 h), (fun h => by rw [hl 12 (by decide)] at h; rw [updF_other _ _ (by decide)]; exact h12 h)⟩
        · clear hi hor hin
          have hls : L.size = 13 := hLs
          have hl : ∀ j, j ≠ 7 → (L.setIfInBounds 7 true).getD j false = L.getD j false := fun j hj => by rw [flag_set _ _ _ (by omega), if_neg (fun e => hj e.symm)]
          generalize ha1 : putsL _ [17, 18, 19, 20, 16, 21, 22, 23, 8, 9, 10] f = a1
          obtain ⟨rn, un, b8, b9, c9, hkk, hrn, ⟨r', u', h16⟩, h8, h9, h6, h7, h12⟩ := hK
          have E16 : a1.tmps[16]?.getD undef = .tuple #[.agg #[.slice al nl cl, u', .slice ac nc cc], .agg #[.int .i64 r', .int .i64 (VN r'), .int .i64 (RM r').ast, .int .i64 (RM r').lia, .int .i64 (RM r').wor, .int .i64 (RM r').rev, .int .i64 (RM r').exp], .int .i64 0] := by rw [← ha1]; exact (putsL_in2 _ _ _ _ (by decide) (show 16 < 48 from by decide)).trans h16
          exact wpOp_val rfl rfl (v := .int .i64 0) (w' := W) (by simp [execOp, go_sem, E16]) ⟨updF f 23 (.int .i64 0), by rw [← ha1]; exact putsL_put _ _ _ _ _ (by decide), rn, un, b8, b9, c9, hkk, hrn, ⟨r', u', (updF_other _ _ (by decide)).trans h16⟩, (updF_other _ _ (by decide)).trans h8, (updF_other _ _ (by decide)).trans h9, (fun h => by rw [hl 6 (by decide)] at h; rw [updF_other _ _ (by decide)]; exact h6 h), (fun _ => updF_same _ _ _), (fun h => by rw [hl 12 (by decide)] at h; rw [updF_other _ _ (by decide)]; exact h12 h)⟩
        · clear hi hor hin
          have hls : L.size = 13 := hLs
          have hl : ∀ j, j ≠ 11 → (L.setIfInBounds 11 true).getD j false = L.getD j false := fun j hj => by rw [flag_set _ _ _ (by omega), if_neg (fun e => hj e.symm)]
          generalize ha1 : putsL _ [17, 18, 19, 20, 16, 21, 22, 23, 8, 9, 10] f = a1
          obtain ⟨rn, un, b8, b9, c9, hkk, hrn, ⟨r', u', h16⟩, h8, h9, h6, h7, h12⟩ := hK
          obtain ⟨r6, h22⟩ := h6 (hdep 6 (by kernel_rfl))
          have E9 : a1.tmps[9]?.getD undef = .pointer (some ⟨b9, 0, none⟩) := by rw [← ha1]; exact (putsL_in2 _ _ _ _ (by decide) (show 9 < 48 from by decide)).trans h9
          have E22 : a1.tmps[22]?.getD undef = .agg #[.int .i64 r6, .int .i64 (VN r6), .int .i64 (RM r6).ast, .int .i64 (RM r6).lia, .int .i64 (RM r6).wor, .int .i64 (RM r6).rev, .int .i64 (RM r6).exp] := by rw [← ha1]; exact (putsL_in2 _ _ _ _ (by decide) (show 22 < 48 from by decide)).trans h22
          obtain ⟨⟨u0, p0⟩, ⟨u1, p1⟩, ⟨u2, p2⟩, ⟨u3, p3⟩, ⟨u4, p4⟩, ⟨u5, p5⟩, ⟨u6, p6⟩⟩ := cells_seven hkk.x9 hkk.s9
          have f0 := obj_free hkk.x9 0
          have f1 := obj_free hkk.x9 1
          have f2 := obj_free hkk.x9 2
          have f3 := obj_free hkk.x9 3
          have f4 := obj_free hkk.x9 4
          have f5 := obj_free hkk.x9 5
          have f6 := obj_free hkk.x9 6
          have hkk2 := hkk.store (put7_grown W b9 (.int .i64 r6) (.int .i64 (VN r6)) (.int .i64 (RM r6).ast) (.int .i64 (RM r6).lia) (.int .i64 (RM r6).wor) (.int .i64 (RM r6).rev) (.int .i64 (RM r6).exp)) (put7_at hkk.x9 hkk.s9 _ _ _ _ _ _ _) rfl
          exact wpOp_skip rfl rfl (w' := put7 W b9 (.int .i64 r6) (.int .i64 (VN r6)) (.int .i64 (RM r6).ast) (.int .i64 (RM r6).lia) (.int .i64 (RM r6).wor) (.int .i64 (RM r6).rev) (.int .i64 (RM r6).exp)) (by unfold put7; simp [execOp, go_sem, E9, E22, p0, p1, p2, p3, p4, p5, p6, f0, f1, f2, f3, f4, f5, f6]) ⟨f, ha1.symm, rn, un, b8, b9, _, hkk2, hrn, ⟨r', u', h16⟩, h8, h9, (fun h => by rw [hl 6 (by decide)] at h; exact h6 h), (fun h => by rw [hl 7 (by decide)] at h; exact h7 h), (fun h => by rw [hl 12 (by decide)] at h; exact h12 h)⟩
        · clear hi hor hin
          have hls : L.size = 13 := hLs
          have hl : ∀ j, j ≠ 12 → (L.setIfInBounds 12 true).getD j false = L.getD j false := fun j hj => by rw [flag_set _ _ _ (by omega), if_neg (fun e => hj e.symm)]
          generalize ha1 : putsL _ [17, 18, 19, 20, 16, 21, 22, 23, 8, 9, 10] f = a1
          obtain ⟨rn, un, b8, b9, c9, hkk, hrn, ⟨r', u', h16⟩, h8, h9, h6, h7, h12⟩ := hK
          have h23 := h7 (hdep 7 (by kernel_rfl))
          have E23 : a1.tmps[23]?.getD undef = .int .i64 0 := by rw [← ha1]; exact (putsL_in2 _ _ _ _ (by decide) (show 23 < 48 from by decide)).trans h23
          exact wpOp_val rfl rfl (v := .int .i64 0) (w' := W) (by simp [execOp, go_sem, E23]) ⟨updF f 10 (.int .i64 0), by rw [← ha1]; exact putsL_put _ _ _ _ _ (by decide), rn, un, b8, b9, c9, hkk, hrn, ⟨r', u', (updF_other _ _ (by decide)).trans h16⟩, (updF_other _ _ (by decide)).trans h8, (updF_other _ _ (by decide)).trans h9, (fun h => by rw [hl 6 (by decide)] at h; rw [updF_other _ _ (by decide)]; exact h6 h), (fun h => by rw [hl 7 (by decide)] at h; rw [updF_other _ _ (by decide)]; exact h7 h), (fun _ => updF_same _ _ _)⟩
      case refine_4 =>
        intro L f W hK hall
        simp only [putsL, List.foldl_cons, List.foldl_nil, Act.put, List.setIfInBounds_toArray, List.set_cons_zero, List.set_cons_succ]
        obtain ⟨rn, un, b8, b9, c9, hkk, hrn, ⟨r', u', h16⟩, h8, h9, h6, h7, h12⟩ := hK
        have h10 := h12 (hall 12 (show 12 < 13 from by decide))
        go_wp2
        go_meet
        exact ⟨rn, un, b8, (by first | exact h8 | rfl), (by first | exact h10 | rfl), hrn, Lib.hid hkk.l8, Lib.hid hkk.si, Lib.hid hkk.x8, Lib.hid hkk.row⟩
    case rest =>
    obtain ⟨rn, un, b8, rfl, rfl, hrn, HL8, HIX, HX8, HRW⟩ := hcut
    have HAX := Lib.hid (HAT.out _ (HJI.out _ HIX.out))
    have HRX := Lib.hid (obj_turn HR1.out HIX.out.old HNE.out.2.1)
    have hx8 := HX8.out
    obtain ⟨au, cu, rfl, -, -⟩ := HRW.out.shape prsF
    have hre := HRX.out
    have xc0 := obj_cell hx8 0
    have xc1 := obj_cell hx8 1
    have xc2 := obj_cell hx8 2
    simp at xc0 xc1 xc2
    have r0 := obj_cell hre 0
    have r1 := obj_cell hre 1
    have r2 := obj_cell hre 2
    simp at r0 r1 r2
    have fr0 := obj_free hre 0
    have fr1 := obj_free hre 1
    have fr2 := obj_free hre 2
    clear hx8 hre
    go_wp2
    refine ret3 HRX.out rfl _ _ _ (v := .tuple #[.agg #[.slice al nl cl, .slice au (PP rn).length cu, .slice ac nc cc], .int .i64 fnd]) (fun F hF => ?_) rfl ⟨presH h rn, fnd, _, _, _, rfl, HSP.out rn hrn, ?_, ?_⟩
    · have q0 := obj_cell hF 0
      have q1 := obj_cell hF 1
      have q2 := obj_cell hF 2
      simp at q0 q1 q2
      simp [results, Try.results10, go_sem, q0, q1, q2]
    · have hh : HstAt _ (.slice al nl cl) (.slice au (PP rn).length cu) (.slice ac nc cc) (presH h rn) := ⟨HAX.out.led, by have := HRW.out; rw [HCN.out] at this ⊢; exact this, HAX.out.cors⟩
      exact hh.keep (lone_hst HRX.out) (put3_grown2 _ _ _ _ _)
    · exact (SI.grown ⟨HIX.out.src, grown_step HI1.out.old HIX.out.old, HNE.out.2.2⟩ (put3_grown2 _ _ _ _ _) fun r e => by injection e with e; have := HLR.out; omega)
  · have hr0b : (r0 == 0) = false := by rw [beq_eq_false_iff_ne]; exact hr0
    go_wp2_with fail
    refine (n_in HI1.out 30 (by omega) (by omega)).mono ?_
    rintro e w3 ⟨qn, rfl, q00, q01, hi3, hg3⟩
    have HI3 := Lib.hid hi3
    have HH3 := Lib.hid (obj_turn HH1.out hg3 HNE.out.1)
    have HR3 := Lib.hid (obj_turn HR1.out hg3 HNE.out.2.1)
    obtain ⟨f2, hf2⟩ : ∃ q, q = fnd + qn := ⟨_, rfl⟩
    have hwf : IntKind.i64.wrap (fnd + qn) = f2 := by rw [hf2]; exact IntWalk.i64_in _ (by omega)
    have hff : fnd ≤ f2 ∧ f2 ≤ fnd + 29 := by omega
    have HFF := Lib.hid hff
    have hf3 : 1080 ≤ f2 ∧ f2 ≤ 36000 := by omega
    clear hi3 hg3 HI1 HH1 HR1 hf2
    obtain ⟨J, hJ⟩ : ∃ J, J = fun W : World => SI w3 tb W := ⟨_, rfl⟩
    have HJO : Hid (∀ W, J W → SI w3 tb W) := Lib.hid fun W hW => by rw [hJ] at hW; exact hW
    have HJI : Hid (∀ W, SI w3 tb W → J W) := Lib.hid fun W hW => by rw [hJ]; exact hW
    have HJD : Hid (∀ W, J W → J W.drew) := Lib.hid fun W hW => HJI.out _ ((HJO.out W hW).drew)
    have HJA : Hid (∀ W o, J W → J (W.alloc o)) := Lib.hid fun W o hW => HJI.out _ ((HJO.out W hW).alloc o)
    have HJ0 : Hid (J w3) := Lib.hid (HJI.out _ (si_start HI3.out.src))
    have HTN : Hid (∀ b, w3.heap.size ≤ b → b ≠ tb) := Lib.hid fun b hb e => by have := HI3.out.src.lt; omega
    have HMH : Hid (∀ W, J W → ∀ j, W.cell? ⟨bH, j, none⟩ = #[.slice al nl cl, .slice ap np cp, .slice ac nc cc][j]?) := Lib.hid fun W hW j => obj_cell (obj_turn HH3.out (HJO.out W hW).old HNE.out.1) j
    have HAT : Hid (∀ W, J W → HstAt W (.slice al nl cl) (.slice ap np cp) (.slice ac nc cc) h) := Lib.hid fun W hW => HA.out W ⟨(HJO.out W hW).src, grown_step HI3.out.old (HJO.out W hW).old, HNE.out.2.2⟩
    have HCR : Hid (∀ W, J W → Calls Try.prog 16 #[.pointer (some ⟨tb, 0, none⟩), .int .i64 f2] W fun e w' => ∃ (cx : Cor) (sx : Sli), e = .returned (.agg #[.int .i64 cx.yr, .int .i64 cx.fnd, sx.v]) ∧ (CorOk cx ∧ cx.fnd = f2) ∧ PstsAt w' sx.v cx.ps ∧ J w' ∧ SrcAt W tb ∧ W.grownBy w' (some tb)) := Lib.hid fun W hW => (correction44_any tb hf3 W (HJO.out W hW).src).mono fun e w' ⟨c, sx, h1, h2, h3, h4, h5⟩ => ⟨c, sx, h1, ⟨h2, h3.2⟩, h4, HJI.out _ ((HJO.out W hW).turn h5.src h5.old), (HJO.out W hW).src, h5.old⟩
    have HCO : Hid (∀ (cx : Cor) (sx : Sli) W, J W → (CorOk cx ∧ cx.fnd = f2) → PstsAt W sx.v cx.ps → Calls Try.prog 25 #[.agg #[.slice al nl cl, .slice ap np cp, .slice ac nc cc], .agg #[.int .i64 cx.yr, .int .i64 cx.fnd, sx.v]] W fun e w' => ∃ (cy : Cor) (un : Value), e = .returned (.tuple #[.agg #[.slice al nl cl, .slice ap np cp, un], .int .i64 0]) ∧ (CorOk cy ∧ cy.fnd = f2) ∧ CorsAt w' un (C ++ [cy]) ∧ J w' ∧ Below W.heap.size W w') := Lib.hid fun cx sx W hW hc hp => (HRC.out cx hc.1 (by have := hc.2; have := HFF.out; omega) sx W (HAT.out W hW) hp).mono fun e w' ⟨u, h1, h2, h3⟩ => ⟨cx, u, h1, hc, h2, HJI.out _ ((HJO.out W hW).below h3), h3⟩
    have egC := enters_of Try.func16 (by kernel_rfl) rfl
    have egR := enters_of Try.func25 (by kernel_rfl) rfl
    clear hJ
    go_upto_region 7 with fail
    obtain ⟨P, hP⟩ : ∃ P : Nat → Value → World → Prop, P = fun j v W => match j with | 0 => (v = .agg #[.slice al nl cl, .slice ap np cp, .slice ac nc cc]) | 1 => (v = .pointer (some ⟨tb, 0, none⟩)) | 2 => (v = .int .i64 f2) | 3 => (∃ cx sx, v = .agg #[.int .i64 (Cor.yr cx), .int .i64 (Cor.fnd cx), Sli.v sx] ∧ (CorOk cx ∧ Cor.fnd cx = f2) ∧ PstsAt W (Sli.v sx) (Cor.ps cx)) | 4 => (∃ cx un, v = .tuple #[.agg #[.slice al nl cl, .slice ap np cp, un], .int .i64 0] ∧ (CorOk cx ∧ Cor.fnd cx = f2) ∧ CorsAt W un (C ++ [cx])) | 5 => (∃ cx un, v = .tuple #[.agg #[.slice al nl cl, .slice ap np cp, un], .int .i64 0] ∧ (CorOk cx ∧ Cor.fnd cx = f2) ∧ CorsAt W un (C ++ [cx])) | 6 => (∃ cx un, v = .agg #[.slice al nl cl, .slice ap np cp, un] ∧ (CorOk cx ∧ Cor.fnd cx = f2) ∧ CorsAt W un (C ++ [cx])) | 7 => (v = .int .i64 0) | 8 => (∃ b8, v = .pointer (some ⟨b8, 0, none⟩) ∧ (w3.heap.size ≤ b8 ∧ W.heap[b8]? = some (.cells #[.slice none 0 0, .slice none 0 0, .slice none 0 0] 31 (0, 0)))) | _ => True := ⟨_, rfl⟩
    have HPI0 : Hid (∀ v W, P 0 v W ↔ (v = .agg #[.slice al nl cl, .slice ap np cp, .slice ac nc cc])) := Lib.hid fun v W => by rw [hP] <;> exact Iff.rfl
    have HPI1 : Hid (∀ v W, P 1 v W ↔ (v = .pointer (some ⟨tb, 0, none⟩))) := Lib.hid fun v W => by rw [hP] <;> exact Iff.rfl
    have HPI2 : Hid (∀ v W, P 2 v W ↔ (v = .int .i64 f2)) := Lib.hid fun v W => by rw [hP] <;> exact Iff.rfl
    have HPI3 : Hid (∀ v W, P 3 v W ↔ (∃ cx sx, v = .agg #[.int .i64 (Cor.yr cx), .int .i64 (Cor.fnd cx), Sli.v sx] ∧ (CorOk cx ∧ Cor.fnd cx = f2) ∧ PstsAt W (Sli.v sx) (Cor.ps cx))) := Lib.hid fun v W => by rw [hP] <;> exact Iff.rfl
    have HPI4 : Hid (∀ v W, P 4 v W ↔ (∃ cx un, v = .tuple #[.agg #[.slice al nl cl, .slice ap np cp, un], .int .i64 0] ∧ (CorOk cx ∧ Cor.fnd cx = f2) ∧ CorsAt W un (C ++ [cx]))) := Lib.hid fun v W => by rw [hP] <;> exact Iff.rfl
    have HPI5 : Hid (∀ v W, P 5 v W ↔ (∃ cx un, v = .tuple #[.agg #[.slice al nl cl, .slice ap np cp, un], .int .i64 0] ∧ (CorOk cx ∧ Cor.fnd cx = f2) ∧ CorsAt W un (C ++ [cx]))) := Lib.hid fun v W => by rw [hP] <;> exact Iff.rfl
    have HPI6 : Hid (∀ v W, P 6 v W ↔ (∃ cx un, v = .agg #[.slice al nl cl, .slice ap np cp, un] ∧ (CorOk cx ∧ Cor.fnd cx = f2) ∧ CorsAt W un (C ++ [cx]))) := Lib.hid fun v W => by rw [hP] <;> exact Iff.rfl
    have HPI7 : Hid (∀ v W, P 7 v W ↔ (v = .int .i64 0)) := Lib.hid fun v W => by rw [hP] <;> exact Iff.rfl
    have HPI8 : Hid (∀ v W, P 8 v W ↔ (∃ b8, v = .pointer (some ⟨b8, 0, none⟩) ∧ (w3.heap.size ≤ b8 ∧ W.heap[b8]? = some (.cells #[.slice none 0 0, .slice none 0 0, .slice none 0 0] 31 (0, 0))))) := Lib.hid fun v W => by rw [hP] <;> exact Iff.rfl
    have HKP : Hid (∀ (j : Nat) v W W', Below W.heap.size W W' → P j v W → P j v W') := Lib.hid (by
      rw [hP]
      intro j v W W' hb h
      match j, h with
      | 0, h => exact h
      | 1, h => exact h
      | 2, h => exact h
      | 3, ⟨cx, sx, e, s0, s1⟩ => exact ⟨cx, sx, e, s0, ListAt.below s1 hb⟩
      | 4, ⟨cx, un, e, s0, s1⟩ => exact ⟨cx, un, e, s0, s1.below hb⟩
      | 5, ⟨cx, un, e, s0, s1⟩ => exact ⟨cx, un, e, s0, s1.below hb⟩
      | 6, ⟨cx, un, e, s0, s1⟩ => exact ⟨cx, un, e, s0, s1.below hb⟩
      | 7, h => exact h
      | 8, ⟨b8, e, s0⟩ => exact ⟨b8, e, ⟨s0.1, obj_below s0.2 hb⟩⟩
      | j + 9, _ => trivial)
    have HKT : Hid (∀ (j : Nat) v W W', SrcAt W tb → W.grownBy W' (some tb) → P j v W → P j v W') := Lib.hid (by
      rw [hP]
      intro j v W W' hs hg h
      match j, h with
      | 0, h => exact h
      | 1, h => exact h
      | 2, h => exact h
      | 3, ⟨cx, sx, e, s0, s1⟩ => exact ⟨cx, sx, e, s0, PstsAt.turn s1 hs hg⟩
      | 4, ⟨cx, un, e, s0, s1⟩ => exact ⟨cx, un, e, s0, cors_turn s1 hs hg⟩
      | 5, ⟨cx, un, e, s0, s1⟩ => exact ⟨cx, un, e, s0, cors_turn s1 hs hg⟩
      | 6, ⟨cx, un, e, s0, s1⟩ => exact ⟨cx, un, e, s0, cors_turn s1 hs hg⟩
      | 7, h => exact h
      | 8, ⟨b8, e, s0⟩ => exact ⟨b8, e, ⟨s0.1, obj_turn s0.2 hg (HTN.out _ s0.1)⟩⟩
      | j + 9, _ => trivial)
    clear hP
    go_cut [11, 12] (fun xv ev wx => ∃ (cx : Cor) (un : Value) (b8 : Nat), xv = .pointer (some ⟨b8, 0, none⟩) ∧ ev = .int .i64 0 ∧ (CorOk cx ∧ cx.fnd = f2) ∧ Hid (SI w3 tb wx) ∧ Hid (wx.heap[b8]? = some (.cells #[.slice al nl cl, .slice ap np cp, un] 31 (0, 0))) ∧ Hid (CorsAt wx un (C ++ [cx])))
    case first =>
      refine wp_region_phase [35, 36, 37, 38, 39, 34, 40, 41, 11, 12] (slotS [35, 36, 37, 38, 39, 34, 40, 41, 11, 9990, 12]) (readsS [35, 36, 37, 38, 39, 34, 40, 41, 11, 9990, 12]) (RP [35, 36, 37, 38, 39, 34, 40, 41, 11, 9990, 12] P) J (fun L f W => ∃ (cx : Cor) (un : Value) (b8 : Nat), SI w3 tb W ∧ W.heap[b8]? = some (.cells #[.slice al nl cl, .slice ap np cp, un] 31 (0, 0)) ∧ w3.heap.size ≤ b8 ∧ CorsAt W un (C ++ [cx]) ∧ (CorOk cx ∧ cx.fnd = f2) ∧ (∃ u' : Value, f 34 = .tuple #[.agg #[.slice al nl cl, .slice ap np cp, u'], .int .i64 0]) ∧ f 11 = .pointer (some ⟨b8, 0, none⟩) ∧ (L.getD 7 false = true → f 41 = .int .i64 0) ∧ (L.getD 10 false = true → f 12 = .int .i64 0)) 9 8 [7] (show 9 < 11 from by decide) (by kernel_rfl) (by kernel_rfl) (by kernel_rfl) (by kernel_rfl) (by kernel_rfl) (HJD.out _ HJ0.out) (fun j f q v W hq h => RP.upd hq h) ?_ ?_ ?_ ?_
      case refine_1 =>
        intro iq hiq f W hIW hdep0
        have hiq' : iq < 9 := hiq
        have hdep : ∀ j, j < 9 → depB _ iq j = true → P j (f (slotS [35, 36, 37, 38, 39, 34, 40, 41, 11, 9990, 12] j)) W := hdep0
        clear hdep0
        generalize ha1 : putsL _ [35, 36, 37, 38, 39, 34, 40, 41, 11, 12] f = a1
        match iq, hiq', hdep with
        | 0, _, hdep0 =>
          have E4 : a1.tmps[4]?.getD undef = .pointer (some ⟨bH, 0, none⟩) := by rw [← ha1]; exact (putsL_out2 _ _ _ _ (by decide)).trans rfl
          have v0 : W.cell? ⟨bH, 0, none⟩ = some (.slice al nl cl) := by simpa using HMH.out W hIW 0
          have v1 : W.cell? ⟨bH, 1, none⟩ = some (.slice ap np cp) := by simpa using HMH.out W hIW 1
          have v2 : W.cell? ⟨bH, 2, none⟩ = some (.slice ac nc cc) := by simpa using HMH.out W hIW 2
          exact wpOp_val rfl rfl (v := .agg #[.slice al nl cl, .slice ap np cp, .slice ac nc cc]) (w' := W) (by simp [execOp, go_sem, E4, v0, v1, v2]) ⟨hIW, fun _ h => h, _, by decide, rfl, RP.set ((HPI0.out _ _).2 rfl)⟩
        | 1, _, hdep0 =>
          have E0 : a1.tmps[0]?.getD undef = .pointer (some ⟨tb, 0, none⟩) := by rw [← ha1]; exact (putsL_out2 _ _ _ _ (by decide)).trans rfl
          exact wpOp_val rfl rfl (v := .pointer (some ⟨tb, 0, none⟩)) (w' := W) (by simp [execOp, go_sem, E0]) ⟨hIW, fun _ h => h, _, by decide, rfl, RP.set ((HPI1.out _ _).2 rfl)⟩
        | 2, _, hdep0 =>
          have E2 : a1.tmps[2]?.getD undef = .int .i64 f2 := by rw [← ha1]; exact (putsL_out2 _ _ _ _ (by decide)).trans rfl
          exact wpOp_val rfl rfl (v := .int .i64 f2) (w' := W) (by simp [execOp, go_sem, E2]) ⟨hIW, fun _ h => h, _, by decide, rfl, RP.set ((HPI2.out _ _).2 rfl)⟩
        | 3, _, hdep0 =>
          have hd1 := (HPI1.out _ _).1 (hdep0 1 (by decide) (by kernel_rfl))
          have hd2 := (HPI2.out _ _).1 (hdep0 2 (by decide) (by kernel_rfl))
          have E36 : a1.tmps[36]?.getD undef = .pointer (some ⟨tb, 0, none⟩) := by rw [← ha1]; exact (putsL_in2 _ _ _ _ (by decide) (show 36 < 48 from by decide)).trans hd1
          have E37 : a1.tmps[37]?.getD undef = .int .i64 f2 := by rw [← ha1]; exact (putsL_in2 _ _ _ _ (by decide) (show 37 < 48 from by decide)).trans hd2
          refine wpOp_call rfl rfl (n := 16) (vs := #[.pointer (some ⟨tb, 0, none⟩), .int .i64 f2]) (by have := egC #[.pointer (some ⟨tb, 0, none⟩), .int .i64 f2] W; simp [execOp, E36, E37, resolve, invoke, go_sem] <;> exact this) ((HCR.out W hIW).mono fun e w' hh => (by obtain ⟨cx, sx, rfl, p0, p1, hJ', hb'⟩ := hh; exact ⟨_, rfl, (HPI3.out _ _).2 ⟨_, _, rfl, p0, p1⟩, hJ', hb'⟩ : ∃ v, e = .returned v ∧ (P 3 v w' ∧ J w' ∧ SrcAt W tb ∧ W.grownBy w' (some tb)))) ?_
          rintro v w' ⟨hv, hI', hb'⟩
          exact ⟨hI', fun j h => HKT.out j _ _ _ hb'.1 hb'.2 h, _, by decide, rfl, RP.set hv⟩
        | 4, _, hdep0 =>
          have hd0 := (HPI0.out _ _).1 (hdep0 0 (by decide) (by kernel_rfl))
          have hd3 := (HPI3.out _ _).1 (hdep0 3 (by decide) (by kernel_rfl))
          have E35 : a1.tmps[35]?.getD undef = .agg #[.slice al nl cl, .slice ap np cp, .slice ac nc cc] := by rw [← ha1]; exact (putsL_in2 _ _ _ _ (by decide) (show 35 < 48 from by decide)).trans hd0
          obtain ⟨cx, sx, q3, r3_0, r3_1⟩ := hd3
          have E38 : a1.tmps[38]?.getD undef = .agg #[.int .i64 (Cor.yr cx), .int .i64 (Cor.fnd cx), Sli.v sx] := by rw [← ha1]; exact (putsL_in2 _ _ _ _ (by decide) (show 38 < 48 from by decide)).trans q3
          refine wpOp_call rfl rfl (n := 25) (vs := #[.agg #[.slice al nl cl, .slice ap np cp, .slice ac nc cc], .agg #[.int .i64 (Cor.yr cx), .int .i64 (Cor.fnd cx), Sli.v sx]]) (by have := egR #[.agg #[.slice al nl cl, .slice ap np cp, .slice ac nc cc], .agg #[.int .i64 (Cor.yr cx), .int .i64 (Cor.fnd cx), Sli.v sx]] W; simp [execOp, E35, E38, resolve, invoke, go_sem] <;> exact this) ((HCO.out cx sx W hIW r3_0 r3_1).mono fun e w' hh => (by obtain ⟨cx, un, rfl, p0, p1, hJ', hb'⟩ := hh; exact ⟨_, rfl, (HPI4.out _ _).2 ⟨_, _, rfl, p0, p1⟩, hJ', hb'⟩ : ∃ v, e = .returned v ∧ (P 4 v w' ∧ J w' ∧ Below W.heap.size W w'))) ?_
          rintro v w' ⟨hv, hI', hb'⟩
          exact ⟨hI', fun j h => HKP.out j _ _ _ hb' h, _, by decide, rfl, RP.set hv⟩
        | 5, _, hdep0 =>
          have hd4 := (HPI4.out _ _).1 (hdep0 4 (by decide) (by kernel_rfl))
          obtain ⟨cx, un, q4, r4_0, r4_1⟩ := hd4
          have E39 : a1.tmps[39]?.getD undef = .tuple #[.agg #[.slice al nl cl, .slice ap np cp, un], .int .i64 0] := by rw [← ha1]; exact (putsL_in2 _ _ _ _ (by decide) (show 39 < 48 from by decide)).trans q4
          exact wpOp_val rfl rfl (v := .tuple #[.agg #[.slice al nl cl, .slice ap np cp, un], .int .i64 0]) (w' := W) (by simp [execOp, go_sem, E39]) ⟨hIW, fun _ h => h, _, by decide, rfl, RP.set ((HPI5.out _ _).2 ⟨_, _, rfl, r4_0, r4_1⟩)⟩
        | 6, _, hdep0 =>
          have hd5 := (HPI5.out _ _).1 (hdep0 5 (by decide) (by kernel_rfl))
          obtain ⟨cx, un, q5, r5_0, r5_1⟩ := hd5
          have E34 : a1.tmps[34]?.getD undef = .tuple #[.agg #[.slice al nl cl, .slice ap np cp, un], .int .i64 0] := by rw [← ha1]; exact (putsL_in2 _ _ _ _ (by decide) (show 34 < 48 from by decide)).trans q5
          exact wpOp_val rfl rfl (v := .agg #[.slice al nl cl, .slice ap np cp, un]) (w' := W) (by simp [execOp, go_sem, E34]) ⟨hIW, fun _ h => h, _, by decide, rfl, RP.set ((HPI6.out _ _).2 ⟨_, _, rfl, r5_0, r5_1⟩)⟩
        | 7, _, hdep0 =>
          have hd5 := (HPI5.out _ _).1 (hdep0 5 (by decide) (by kernel_rfl))
          obtain ⟨cx, un, q5, r5_0, r5_1⟩ := hd5
          have E34 : a1.tmps[34]?.getD undef = .tuple #[.agg #[.slice al nl cl, .slice ap np cp, un], .int .i64 0] := by rw [← ha1]; exact (putsL_in2 _ _ _ _ (by decide) (show 34 < 48 from by decide)).trans q5
          exact wpOp_val rfl rfl (v := .int .i64 0) (w' := W) (by simp [execOp, go_sem, E34]) ⟨hIW, fun _ h => h, _, by decide, rfl, RP.set ((HPI7.out _ _).2 rfl)⟩
        | 8, _, hdep0 =>
          exact wpOp_val rfl rfl (v := .pointer (some ⟨W.heap.size, 0, none⟩)) (w' := W.alloc (.cells #[.slice none 0 0, .slice none 0 0, .slice none 0 0] 31)) (by simp [execOp, go_sem]) ⟨(HJA.out _ _ hIW), fun j h => HKP.out j _ _ _ (below_alloc _ _) h, _, by decide, rfl, RP.set ((HPI8.out _ _).2 ⟨_, rfl, (HJO.out _ hIW).old.size, heap_alloc_new _ _⟩)⟩
        | iq + 9, h, _ => exact absurd h (by omega)
      case refine_2 =>
        intro L f W hLs hLn hIW hR hE hLz
        have hQ : ∀ j, j < 9 → L.getD j false = true → P j (f (slotS [35, 36, 37, 38, 39, 34, 40, 41, 11, 9990, 12] j)) W := hR
        clear hR
        generalize ha1 : putsL _ [35, 36, 37, 38, 39, 34, 40, 41, 11, 12] f = a1
        obtain ⟨c5, u5, q5, -, -⟩ := (HPI5.out _ _).1 (hQ 5 (by decide) (hE 5 (by decide) rfl))
        obtain ⟨cx, un, q6, hcx, hrow⟩ := (HPI6.out _ _).1 (hQ 6 (by decide) (hE 6 (by decide) rfl))
        obtain ⟨b8, q8, l8, hx8⟩ := (HPI8.out _ _).1 (hQ 8 (by decide) (hE 8 (by decide) rfl))
        have h7 : L.getD 7 false = true → f 41 = .int .i64 0 := fun h => (HPI7.out _ _).1 (hQ 7 (by decide) h)
        have h10 := hLz 10 (by decide) (show 10 < 11 from by decide)
        have hls : L.size = 11 := hLs
        have hl : ∀ j, j ≠ 9 → (L.setIfInBounds 9 true).getD j false = L.getD j false := fun j hj => by rw [flag_set _ _ _ (by omega), if_neg (fun e => hj e.symm)]
        obtain ⟨au, nu, cu, rfl⟩ := cors_shape hrow
        have E11 : a1.tmps[11]?.getD undef = .pointer (some ⟨b8, 0, none⟩) := by rw [← ha1]; exact (putsL_in2 _ _ _ _ (by decide) (show 11 < 48 from by decide)).trans q8
        have E40 : a1.tmps[40]?.getD undef = .agg #[.slice al nl cl, .slice ap np cp, .slice au nu cu] := by rw [← ha1]; exact (putsL_in2 _ _ _ _ (by decide) (show 40 < 48 from by decide)).trans q6
        have p0 := obj_cell hx8 0
        have p1 := obj_cell hx8 1
        have p2 := obj_cell hx8 2
        have f0 := obj_free hx8 0
        have f1 := obj_free hx8 1
        have f2' := obj_free hx8 2
        simp at p0 p1 p2
        have hg := put3_grown2 W b8 (.slice al nl cl) (.slice ap np cp) (.slice au nu cu)
        exact wpOp_skip rfl rfl (w' := put3 W b8 (.slice al nl cl) (.slice ap np cp) (.slice au nu cu)) (by unfold put3; simp [execOp, go_sem, E11, E40, p0, p1, p2, f0, f1, f2']) ⟨rfl, cx, _, b8, (HJO.out W hIW).grown hg (fun r e => by injection e with e; omega), put3_at hx8 rfl _ _ _, l8, cors_keep hrow hx8 hg, hcx, ⟨u5, q5⟩, q8, (fun h => by rw [hl 7 (by decide)] at h; exact h7 h), (fun h => by rw [hl 10 (by decide), h10] at h; cases h)⟩
      case refine_3 =>
        intro i hi hor L f W hLs hK hLn hdep
        have hin : i < 11 := hi
        rcases (show i = 7 ∨ i = 10 by first | (rcases hor with hor | hor <;> first | omega | (simp at hor; omega))) with rfl | rfl
        · clear hi hor hin
          have hls : L.size = 11 := hLs
          have hl : ∀ j, j ≠ 7 → (L.setIfInBounds 7 true).getD j false = L.getD j false := fun j hj => by rw [flag_set _ _ _ (by omega), if_neg (fun e => hj e.symm)]
          generalize ha1 : putsL _ [35, 36, 37, 38, 39, 34, 40, 41, 11, 12] f = a1
          obtain ⟨cx, un, b8, k1, k2, k3, k4, k5, ⟨u', h34⟩, h11, h7, h10⟩ := hK
          have E34 : a1.tmps[34]?.getD undef = .tuple #[.agg #[.slice al nl cl, .slice ap np cp, u'], .int .i64 0] := by rw [← ha1]; exact (putsL_in2 _ _ _ _ (by decide) (show 34 < 48 from by decide)).trans h34
          exact wpOp_val rfl rfl (v := .int .i64 0) (w' := W) (by simp [execOp, go_sem, E34]) ⟨updF f 41 (.int .i64 0), by rw [← ha1]; exact putsL_put _ _ _ _ _ (by decide), cx, un, b8, k1, k2, k3, k4, k5, ⟨u', (updF_other _ _ (by decide)).trans h34⟩, (updF_other _ _ (by decide)).trans h11, (fun _ => updF_same _ _ _), (fun h => by rw [hl 10 (by decide)] at h; rw [updF_other _ _ (by decide)]; exact h10 h)⟩
        · clear hi hor hin
          have hls : L.size = 11 := hLs
          have hl : ∀ j, j ≠ 10 → (L.setIfInBounds 10 true).getD j false = L.getD j false := fun j hj => by rw [flag_set _ _ _ (by omega), if_neg (fun e => hj e.symm)]
          generalize ha1 : putsL _ [35, 36, 37, 38, 39, 34, 40, 41, 11, 12] f = a1
          obtain ⟨cx, un, b8, k1, k2, k3, k4, k5, ⟨u', h34⟩, h11, h7, h10⟩ := hK
          have h41 := h7 (hdep 7 (by kernel_rfl))
          have E41 : a1.tmps[41]?.getD undef = .int .i64 0 := by rw [← ha1]; exact (putsL_in2 _ _ _ _ (by decide) (show 41 < 48 from by decide)).trans h41
          exact wpOp_val rfl rfl (v := .int .i64 0) (w' := W) (by simp [execOp, go_sem, E41]) ⟨updF f 12 (.int .i64 0), by rw [← ha1]; exact putsL_put _ _ _ _ _ (by decide), cx, un, b8, k1, k2, k3, k4, k5, ⟨u', (updF_other _ _ (by decide)).trans h34⟩, (updF_other _ _ (by decide)).trans h11, (fun h => by rw [hl 7 (by decide)] at h; rw [updF_other _ _ (by decide)]; exact h7 h), (fun _ => updF_same _ _ _)⟩
      case refine_4 =>
        intro L f W hK hall
        simp only [putsL, List.foldl_cons, List.foldl_nil, Act.put, List.setIfInBounds_toArray, List.set_cons_zero, List.set_cons_succ]
        obtain ⟨cx, un, b8, k1, k2, k3, k4, k5, ⟨u', h34⟩, h11, h7, h10⟩ := hK
        have h12 := h10 (hall 10 (show 10 < 11 from by decide))
        go_wp2
        go_meet
        exact ⟨cx, un, b8, (by first | exact h11 | rfl), (by first | exact h12 | rfl), k5, Lib.hid k1, Lib.hid k2, Lib.hid k4⟩
    case rest =>
    obtain ⟨cx, un, b8, rfl, rfl, hcx, HIX, HX8, HRW⟩ := hcut
    have HAX := Lib.hid (HAT.out _ (HJI.out _ HIX.out))
    have HRX := Lib.hid (obj_turn HR3.out HIX.out.old HNE.out.2.1)
    have hx8 := HX8.out
    obtain ⟨au, nu, cu, rfl⟩ := cors_shape HRW.out
    have hre := HRX.out
    have xc0 := obj_cell hx8 0
    have xc1 := obj_cell hx8 1
    have xc2 := obj_cell hx8 2
    simp at xc0 xc1 xc2
    have r0 := obj_cell hre 0
    have r1 := obj_cell hre 1
    have r2 := obj_cell hre 2
    simp at r0 r1 r2
    have fr0 := obj_free hre 0
    have fr1 := obj_free hre 1
    have fr2 := obj_free hre 2
    clear hx8 hre
    go_wp2
    refine ret3 HRX.out rfl _ _ _ (v := .tuple #[.agg #[.slice al nl cl, .slice ap np cp, .slice au nu cu], .int .i64 f2]) (fun F hF => ?_) rfl ⟨corH h cx, f2, _, _, _, rfl, HSC.out cx f2 hcx.1 hcx.2 HFF.out, ?_, ?_⟩
    · have q0 := obj_cell hF 0
      have q1 := obj_cell hF 1
      have q2 := obj_cell hF 2
      simp at q0 q1 q2
      simp [results, Try.results10, go_sem, q0, q1, q2]
    · have hh : HstAt _ (.slice al nl cl) (.slice ap np cp) (.slice au nu cu) (corH h cx) := ⟨HAX.out.led, HAX.out.pres, by have := HRW.out; rw [HCE.out] at this; exact this⟩
      exact hh.keep (lone_hst HRX.out) (put3_grown2 _ _ _ _ _)
    · exact (SI.grown ⟨HIX.out.src, grown_step HI3.out.old HIX.out.old, HNE.out.2.2⟩ (put3_grown2 _ _ _ _ _) fun r e => by injection e with e; have := HLR.out; omega)

end Go.Proofs.Ytoccnindkimjdaa
