/- register.Add: a right security more. -/
import Derived.Test.YtnfllgeneehjjaaMRhT
import Derived.Test.YtnfllgeneehjjaaMRhU
import Derived.Test.YtnfllgeneehjjaaMInsSec
set_option linter.unusedSimpArgs false
set_option linter.unusedVariables false
set_option linter.unusedSimpArgs false
set_option linter.unusedVariables false
namespace Go.Proofs.Ytnfllgeneehjjaa
open Go.RowKit Go.Lib Go.Proofs

def insS (r : Reg) (s : Sec) (i : Nat) : Reg := ⟨r.secs.take i ++ s :: r.secs.drop i, r.hs, r.ms⟩

set_option maxRecDepth 100000 in
set_option maxHeartbeats 16000000 in
/-- Where the register is right, the security too, nothing has its ID, and there is room. -/
theorem rxAdd_ok (r : Reg) (s : Sec) (x y z : Value) (w : World) (h : RegOk r) (hs : SecR s) (hno : ∀ t ∈ r.secs, t.id ≠ s.id) (hlen : r.secs.length < 20) (hr : RegAt w x y z r) :
    Calls Try.prog 32 #[.agg #[x, y, z], .agg s.cells.toArray] w fun e w' => ∃ i x' y' z', PosS r.secs s.id i ∧ e = .returned (.tuple #[.agg #[x', y', z'], .int .i64 0]) ∧ RegAt w' x' y' z' (insS r s i) ∧ Below w.heap.size w w' := by
  obtain ⟨zz, rr, hso⟩ := hs
  have hrs := h.regS
  obtain ⟨aS, cS, hxe, hcS, -⟩ := hr.secs.shape secF
  subst hxe
  obtain ⟨nS, hnS⟩ : ∃ n, n = r.secs.length := ⟨_, rfl⟩
  have HNS := Lib.hid hnS
  have HCK := Lib.hid (fun W (hW : Below w.heap.size w W) => rxCheck_any r (.slice aS r.secs.length cS) y z W hrs (hr.below hW))
  have HBS := Lib.hid (fun W (hW : Below w.heap.size w W) => bsSec_any r.secs s.id (.slice aS r.secs.length cS) W h.secs.asc (by omega) (hr.secs.below hW))
  have HSC := Lib.hid (fun W => rgSecurity_ok hso W)
  have HCP := Lib.hid (fun W (hW : Below w.heap.size w W) => rxcopy_any r (.slice aS r.secs.length cS) y z W (hr.below hW) (by omega) (by have := hrs.hl; omega) (by have := hrs.ml; omega))
  have HIN : Hid (∀ base v W vb vcs vt i, i ≤ r.secs.length → base ≤ W.heap.size → W.ownsRow base 34 7 v r.secs.length (cellsL Sec.cells r.secs) → W.heap[vb]? = some (.cells vcs vt (0, 0)) → vcs.toList = s.cells → v.ownBlock ≠ some vb → Calls Try.prog 69 #[v, .int .i64 (i : Int), .slice (some ⟨vb, 0, none⟩) 1 1] W fun e w' => ∃ v', e = .returned v' ∧ RowTo base 34 7 W v w' v' (r.secs.length + 1) (cellsL Sec.cells (r.secs.take i ++ s :: r.secs.drop i))) := Lib.hid fun base v W vb vcs vt i h1 h2 h3 h4 h5 h6 =>
    insSec_any base vb 1 i v r.secs s W vcs vt (by omega) h1 h2 h3 h4 h5 h6
  rw [checkR_ok h] at HCK
  have HHIT : Hid (∀ i, hitS r.secs s.id i = false) := Lib.hid fun i => by
    unfold hitS
    exact decide_eq_false fun ⟨h1, h2⟩ => hno _ (List.getElem_mem h1) h2
  rw [← hnS] at HCK HBS HCP hcS ⊢
  have hn20 : nS < 20 := by omega
  obtain ⟨s0, s1, s2, s3, s4, s5, s6⟩ := s
  simp only [Sec.cells] at HSC ⊢
  obtain ⟨W1, hW1⟩ : ∃ W1, W1 = ((w.alloc (.cells #[.slice aS nS cS, y, z] 29)).alloc (.cells #[.int .i64 s0, .int .i64 s1, .int .i64 s2, .int .i64 s3, .int .i64 s4, .int .i64 s5, .bool s6] 34)).alloc (.cells #[.slice none 0 0, .slice none 0 0, .slice none 0 0] 29) := ⟨_, rfl⟩
  have HB1 : Hid (Below w.heap.size w W1) := Lib.hid (by rw [hW1]; exact below3 w _ _ _)
  have HA1 : Hid (W1.heap[w.heap.size]? = some (.cells #[.slice aS nS cS, y, z] 29 (0, 0))) := Lib.hid (by rw [hW1]; exact alloc3_at0 w _ _ _)
  have HM1 : Hid (W1.heap[w.heap.size + 1]? = some (.cells #[.int .i64 s0, .int .i64 s1, .int .i64 s2, .int .i64 s3, .int .i64 s4, .int .i64 s5, .bool s6] 34 (0, 0))) := Lib.hid (by rw [hW1]; exact alloc3_at1 w _ _ _)
  have HO1 : Hid (W1.heap[w.heap.size + 2]? = some (.cells #[.slice none 0 0, .slice none 0 0, .slice none 0 0] 29 (0, 0))) := Lib.hid (by rw [hW1]; exact alloc3_at w _ _ _)
  clear h hrs hso hno hr hnS hlen
  have hA := HA1.out
  have a0 := obj_cell hA 0
  have a1 := obj_cell hA 1
  have a2 := obj_cell hA 2
  simp at a0 a1 a2
  clear hA
  go_enter Try.func32, Try.ntmps32
  go_upto_region 1 with fail
  rw [← hW1]
  clear hW1
  go_wp2_with fail
  with_reducible refine Calls.mono (HCK.out _ HB1.out) ?_
  rintro e x7 ⟨rfl, b7⟩
  have HB7 : Hid (Below w.heap.size w x7) := Lib.hid (HB1.out.trans (b7.mono HB1.out.size))
  have HA7 := Lib.hid (obj_below HA1.out b7)
  have HM7 := Lib.hid (obj_below HM1.out b7)
  have HO7 := Lib.hid (obj_below HO1.out b7)
  clear a0 a1 a2 b7 HA1 HM1 HO1 HB1 HCK
  have hA7 := HA7.out
  have hM7 := HM7.out
  have a0 := obj_cell hA7 0
  have m0 := obj_cell hM7 0
  simp at a0 m0
  clear hA7 hM7
  go_wp2_with fail
  with_reducible refine Calls.mono (HBS.out _ HB7.out) ?_
  rintro e x8 ⟨i, hP, rfl, b8⟩
  have HB8 : Hid (Below w.heap.size w x8) := Lib.hid (HB7.out.trans (b8.mono HB7.out.size))
  have HA8 := Lib.hid (obj_below HA7.out b8)
  have HM8 := Lib.hid (obj_below HM7.out b8)
  have HO8 := Lib.hid (obj_below HO7.out b8)
  have HP := Lib.hid hP
  rw [HHIT.out i]
  clear a0 m0 b8 HA7 HM7 HO7 HB7 HBS hP
  have hA8 := HA8.out
  have hM8 := HM8.out
  have a0 := obj_cell hA8 0
  have a1 := obj_cell hA8 1
  have a2 := obj_cell hA8 2
  have m0 := obj_cell hM8 0
  have m1 := obj_cell hM8 1
  have m2 := obj_cell hM8 2
  have m3 := obj_cell hM8 3
  have m4 := obj_cell hM8 4
  have m5 := obj_cell hM8 5
  have m6 := obj_cell hM8 6
  simp at a0 a1 a2 m0 m1 m2 m3 m4 m5 m6
  clear hA8 hM8
  go_wp2_with fail
  with_reducible refine Calls.mono (HSC.out _) ?_
  rintro e x9 ⟨rfl, b9⟩
  have HB9 : Hid (Below w.heap.size w x9) := Lib.hid (HB8.out.trans (b9.mono HB8.out.size))
  have HA9 := Lib.hid (obj_below HA8.out b9)
  have HM9 := Lib.hid (obj_below HM8.out b9)
  have HO9 := Lib.hid (obj_below HO8.out b9)
  clear a0 a1 a2 m0 m1 m2 m3 m4 m5 m6 b9 HA8 HM8 HO8 HB8
  have hA9 := HA9.out
  have a0 := obj_cell hA9 0
  have a1 := obj_cell hA9 1
  have a2 := obj_cell hA9 2
  simp at a0 a1 a2
  clear hA9
  have hn20b : ((nS : Int) == 20) = false := beq_eq_false_iff_ne.2 (by omega)
  have hn20c : ¬ ((nS : Int) = 20) := by omega
  go_wp2_with fail
  with_reducible refine Calls.mono (HCP.out _ HB9.out) ?_
  rintro e xc ⟨x', y', z', rfl, bc, os, oh, om⟩
  obtain ⟨n0, hn0⟩ : ∃ n, n = x9.heap.size := ⟨_, rfl⟩
  rw [← hn0] at os oh om
  have HN0 : Hid (w.heap.size + 2 < n0) := Lib.hid (by rw [hn0]; exact obj_lt HO9.out)
  have HBC : Hid (Below w.heap.size w xc) := Lib.hid (HB9.out.trans (bc.mono HB9.out.size))
  have HNC : Hid (n0 ≤ xc.heap.size) := Lib.hid (by rw [hn0]; exact bc.size)
  have HAC := Lib.hid (obj_below HA9.out bc)
  have HMC := Lib.hid (obj_below HM9.out bc)
  have HOC := Lib.hid (obj_below HO9.out bc)
  obtain ⟨nH, hnH⟩ : ∃ n, n = r.hs.length := ⟨_, rfl⟩
  obtain ⟨nM, hnM⟩ : ∃ n, n = r.ms.length := ⟨_, rfl⟩
  rw [← hnH] at oh
  rw [← hnM] at om
  have HNH := Lib.hid hnH
  have HNM := Lib.hid hnM
  obtain ⟨aU, cU, rfl, -, -⟩ := owns_gen os
  obtain ⟨aH, cH, rfl, -, -⟩ := owns_gen oh
  obtain ⟨aL, cL, rfl, -, -⟩ := owns_gen om
  obtain ⟨W5, hW5⟩ : ∃ W5, W5 = put3 xc w.heap.size (.slice aU nS cU) (.slice aH nH cH) (.slice aL nM cL) := ⟨_, rfl⟩
  have HA5 : Hid (W5.heap[w.heap.size]? = some (.cells #[.slice aU nS cU, .slice aH nH cH, .slice aL nM cL] 29 (0, 0))) := Lib.hid (by rw [hW5]; exact put3_at HAC.out rfl _ _ _)
  have hg5 := put3_grown xc w.heap.size (.slice aU nS cU) (.slice aH nH cH) (.slice aL nM cL)
  have HM5 : Hid (W5.heap[w.heap.size + 1]? = some (.cells #[.int .i64 s0, .int .i64 s1, .int .i64 s2, .int .i64 s3, .int .i64 s4, .int .i64 s5, .bool s6] 34 (0, 0))) := Lib.hid (by rw [hW5]; exact (hg5.block _ (obj_lt HMC.out) (by simp)).trans HMC.out)
  have HO5 : Hid (W5.heap[w.heap.size + 2]? = some (.cells #[.slice none 0 0, .slice none 0 0, .slice none 0 0] 29 (0, 0))) := Lib.hid (by rw [hW5]; exact (hg5.block _ (obj_lt HOC.out) (by simp)).trans HOC.out)
  have HB5 : Hid (Below w.heap.size w W5) := Lib.hid (by rw [hW5]; exact put3_below HBC.out (Nat.le_refl _) _ _ _)
  have HS5 : Hid (W5.ownsRow n0 34 7 (.slice aU nS cU) nS (cellsL Sec.cells r.secs)) := Lib.hid (by rw [hW5]; exact owns_put3 os (by have := HN0.out; omega) _ _ _)
  have HH5 : Hid (W5.ownsRow n0 51 3 (.slice aH nH cH) nH (cellsL hldC r.hs)) := Lib.hid (by rw [hW5]; exact owns_put3 oh (by have := HN0.out; omega) _ _ _)
  have HL5 : Hid (W5.ownsRow n0 36 7 (.slice aL nM cL) nM (cellsL mvC r.ms)) := Lib.hid (by rw [hW5]; exact owns_put3 om (by have := HN0.out; omega) _ _ _)
  have HN5 : Hid (n0 ≤ W5.heap.size) := Lib.hid (by rw [hW5]; exact Nat.le_trans HNC.out hg5.size)
  have hAC := HAC.out
  have c0 := obj_cell hAC 0
  have c1 := obj_cell hAC 1
  have c2 := obj_cell hAC 2
  have f0 := obj_free hAC 0
  have f1 := obj_free hAC 1
  have f2 := obj_free hAC 2
  simp at c0 c1 c2
  clear hAC hg5 os oh om bc hnH hnM hn0
  go_upto_region 10 with fail
  unfold put3 at hW5
  rw [← hW5]
  clear hW5 a0 a1 a2 c0 c1 c2 f0 f1 f2 HAC HMC HOC HBC HNC HA9 HM9 HO9 HB9 HCP
  have hA5 := HA5.out
  have hM5 := HM5.out
  have a0 := obj_cell hA5 0
  have m0 := obj_cell hM5 0
  have m1 := obj_cell hM5 1
  have m2 := obj_cell hM5 2
  have m3 := obj_cell hM5 3
  have m4 := obj_cell hM5 4
  have m5 := obj_cell hM5 5
  have m6 := obj_cell hM5 6
  simp at a0 m0 m1 m2 m3 m4 m5 m6
  clear hA5 hM5
  have hal := below_alloc W5 (.cells #[.int .i64 s0, .int .i64 s1, .int .i64 s2, .int .i64 s3, .int .i64 s4, .int .i64 s5, .bool s6] 34)
  have HSA := Lib.hid (ownsRow_below HS5.out hal)
  have HI := Lib.hid (HIN.out n0 (.slice aU nS cU) _ W5.heap.size _ _ i HP.out.le (Nat.le_trans HN5.out hal.size) (by rw [← HNS.out]; exact HSA.out) (heap_alloc_new W5 (.cells #[.int .i64 s0, .int .i64 s1, .int .i64 s2, .int .i64 s3, .int .i64 s4, .int .i64 s5, .bool s6] 34)) rfl (fun e => by have := (HS5.out.lt _ e).2; omega))
  have HAL := Lib.hid hal
  clear hal HIN
  go_wp2_with fail
  with_reducible refine Calls.mono HI.out ?_
  rintro e xi ⟨v', rfl, hR⟩
  obtain ⟨aV, cV, rfl, -, -⟩ := owns_gen hR.owns
  have hbi : Below n0 W5 xi := (HAL.out.mono HN5.out).trans (hR.belowB HSA.out (Nat.le_trans HN5.out HAL.out.size))
  have HBI : Hid (Below w.heap.size w xi) := Lib.hid (HB5.out.trans (hbi.mono (by have := HN0.out; omega)))
  have HVI := Lib.hid hR.owns
  have HHI := Lib.hid (owns_apart (ownsRow_below HH5.out HAL.out) HSA.out (by decide) hR.grown)
  have HLI := Lib.hid (owns_apart (ownsRow_below HL5.out HAL.out) HSA.out (by decide) hR.grown)
  have HAI : Hid (xi.heap[w.heap.size]? = some (.cells #[.slice aU nS cU, .slice aH nH cH, .slice aL nM cL] 29 (0, 0))) := Lib.hid ((hbi.block _ (by have := HN0.out; omega)).trans HA5.out)
  have HOI : Hid (xi.heap[w.heap.size + 2]? = some (.cells #[.slice none 0 0, .slice none 0 0, .slice none 0 0] 29 (0, 0))) := Lib.hid ((hbi.block _ HN0.out).trans HO5.out)
  obtain ⟨nV, hnV⟩ : ∃ n, n = r.secs.length + 1 := ⟨_, rfl⟩
  have HNV := Lib.hid hnV
  rw [← hnV] at HVI ⊢
  clear hnV hR hbi HSA HI HAL a0 m0 m1 m2 m3 m4 m5 m6 HA5 HM5 HO5 HS5 HH5 HL5 HB5 HN5
  have hAI := HAI.out
  have hOI := HOI.out
  have a0 := obj_cell hAI 0
  have a1 := obj_cell hAI 1
  have a2 := obj_cell hAI 2
  have g0 := obj_free hAI 0
  have o0 := obj_cell hOI 0
  have o1 := obj_cell hOI 1
  have o2 := obj_cell hOI 2
  have f0 := obj_free hOI 0
  have f1 := obj_free hOI 1
  have f2 := obj_free hOI 2
  simp at a0 a1 a2 o0 o1 o2
  clear hAI hOI
  obtain ⟨W6, hW6⟩ : ∃ W6, W6 = xi.setCell ⟨w.heap.size, 0, none⟩ (.slice aV nV cV) := ⟨_, rfl⟩
  have hoth : ∀ c, c ≠ w.heap.size → W6.heap[c]? = xi.heap[c]? := fun c hc => by rw [hW6]; exact Below.heap_setCell _ _ _ c hc
  have hA6 := obj_set HAI.out 0 (.slice aV nV cV)
  simp only [List.setIfInBounds_toArray, List.set_cons_zero] at hA6
  rw [← hW6] at hA6
  have HO6 : Hid (W6.heap[w.heap.size + 2]? = some (.cells #[.slice none 0 0, .slice none 0 0, .slice none 0 0] 29 (0, 0))) := Lib.hid ((hoth _ (by omega)).trans HOI.out)
  have HB6 : Hid (Below w.heap.size w W6) := Lib.hid (by rw [hW6]; exact HBI.out.setCell (Nat.le_refl _) _)
  have HV6 : Hid (W6.ownsRow n0 34 7 (.slice aV nV cV) nV (cellsL Sec.cells (r.secs.take i ++ (⟨s0, s1, s2, s3, s4, s5, s6⟩ : Sec) :: r.secs.drop i))) := Lib.hid (by rw [hW6]; exact ownsRow_setCell_below HVI.out (by have := HN0.out; show w.heap.size < n0; omega) _)
  have HH6 : Hid (W6.ownsRow n0 51 3 (.slice aH nH cH) nH (cellsL hldC r.hs)) := Lib.hid (by rw [hW6]; exact ownsRow_setCell_below HHI.out (by have := HN0.out; show w.heap.size < n0; omega) _)
  have HL6 : Hid (W6.ownsRow n0 36 7 (.slice aL nM cL) nM (cellsL mvC r.ms)) := Lib.hid (by rw [hW6]; exact ownsRow_setCell_below HLI.out (by have := HN0.out; show w.heap.size < n0; omega) _)
  have HFIN : Hid (∀ W : World, W.ownsRow n0 34 7 (.slice aV nV cV) nV (cellsL Sec.cells (r.secs.take i ++ (⟨s0, s1, s2, s3, s4, s5, s6⟩ : Sec) :: r.secs.drop i)) → W.ownsRow n0 51 3 (.slice aH nH cH) nH (cellsL hldC r.hs) → W.ownsRow n0 36 7 (.slice aL nM cL) nM (cellsL mvC r.ms) → RegAt W (.slice aV nV cV) (.slice aH nH cH) (.slice aL nM cL) (insS r ⟨s0, s1, s2, s3, s4, s5, s6⟩ i)) := Lib.hid fun W q1 q2 q3 => by
    have e1 : nV = (r.secs.take i ++ (⟨s0, s1, s2, s3, s4, s5, s6⟩ : Sec) :: r.secs.drop i).length := by
      rw [HNV.out]; simp only [List.length_append, List.length_take, List.length_cons, List.length_drop]; have := HP.out.le; omega
    rw [HNH.out] at q2 ⊢
    rw [HNM.out] at q3 ⊢
    rw [e1] at q1 ⊢
    exact ⟨ListAt.owns q1, ListAt.owns q2, ListAt.owns q3⟩
  clear hoth HAI HOI HBI HVI HHI HLI
  have o0' : W6.cell? ⟨w.heap.size + 2, 0, none⟩ = some (.slice none 0 0) := obj_cell HO6.out 0
  clear o0'
  have b0 := obj_cell hA6 0
  have b1 := obj_cell hA6 1
  have b2 := obj_cell hA6 2
  simp at b0 b1 b2
  clear hA6
  go_upto_region 11 with fail
  rw [← hW6]
  clear hW6 a0 a1 a2 g0 o0 o1 o2 f0 f1 f2
  have hO6 := HO6.out
  have o0 := obj_cell hO6 0
  have o1 := obj_cell hO6 1
  have o2 := obj_cell hO6 2
  have f0 := obj_free hO6 0
  have f1 := obj_free hO6 1
  have f2 := obj_free hO6 2
  simp at o0 o1 o2
  clear hO6
  go_wp2
  refine ret3 HO6.out rfl _ _ _ (fun F hF => ?_) rfl ⟨i, _, _, _, HP.out, rfl, HFIN.out _ (owns_put3 HV6.out HN0.out _ _ _) (owns_put3 HH6.out HN0.out _ _ _) (owns_put3 HL6.out HN0.out _ _ _), put3_below HB6.out (by omega) _ _ _⟩
  have q0 := obj_cell hF 0
  have q1 := obj_cell hF 1
  have q2 := obj_cell hF 2
  simp [results, Try.results32, go_sem, q0, q1, q2]

end Go.Proofs.Ytnfllgeneehjjaa
