/- The register's reference: change, for right registers. -/
import Derived.Test.YtblidmkkbcobgaaMRyG
import Derived.Test.YtblidmkkbcobgaaMG6
import Derived.Handy
set_option linter.unusedSimpArgs false
set_option linter.unusedVariables false
set_option linter.unusedSimpArgs false
set_option linter.unusedVariables false
namespace Go.Proofs.Ytblidmkkbcobgaa
open Go.RowKit Go.Lib Go.Proofs

theorem Try.infoMv : (Try.prog.info? 104).map (fun i => (i.zero, i.size, i.bytes)) = some (some (.agg #[.int .i64 0, .int .i64 0, .int .i64 0, .int .i64 0, .int .i64 0, .int .i64 0, .int .i64 0]), 7, 56) := by kernel_rfl
theorem lastM_at : ∀ {b : Mv} {ms : List Mv} (k : Nat) (h : ms.length = k + 1), lastM b ms = ms[k]'(by omega)
  | b, [m], 0, _ => rfl
  | b, m :: m2 :: ms, k + 1, h => by
    show lastM m (m2 :: ms) = _
    rw [lastM_at k (by simpa using h)]
    rfl
  | b, [], k, h => by simp at h
  | b, [m], k + 1, h => by simp at h
  | b, m :: m2 :: ms, 0, h => by simp at h
theorem addE_ok {r : Reg} (h : RegOk r) (m : Mv) : addE r m = if r.ms.length = 400 then 3 else faultM r.secs r.hs (lastM Mv.zero r.ms).day (numM r m) := by
  unfold addE; rw [checkR_ok h]; simp

set_option maxRecDepth 100000 in
set_option maxHeartbeats 16000000 in
theorem rychange_ok (r : Reg) (m : Mv) (x y z : Value) (w : World) (h : RegOk r) (hk : kindOk m) (hr : RegAt w x y z r) :
    Calls Try.prog 65 #[.agg #[x, y, z], .agg (mvC m).toArray] w fun e w' => ∃ x' y' z', e = .returned (.tuple #[.agg #[x', y', z'], .int .i64 (addE r m)]) ∧ RegAt w' x' y' z' (addV r m) ∧ Below w.heap.size w w' := by
  obtain ⟨i0, hi0, hz0, hz1, hz2⟩ := info_parts Try.infoMv
  have hml := h.len
  have H := Lib.hid h
  have HR := Lib.hid hr
  have HSO := Lib.hid h.runM.inv
  obtain ⟨aM, cM, hze, hcapM, hcsM⟩ := hr.ms.shape mvF
  obtain ⟨aS, cS, hxe, -, -⟩ := hr.secs.shape secF
  obtain ⟨aH, cH, hye, -, -⟩ := hr.hs.shape hldF
  have HCM := Lib.hid hcsM
  have HAE := Lib.hid (addE_ok h m)
  have HAV : Hid (addE r m = 0 → addV r m = ⟨r.secs, carryM r.hs (numM r m), r.ms ++ [numM r m]⟩) := Lib.hid fun q => by unfold addV; rw [if_pos q]; rfl
  have HAZ : Hid (addE r m ≠ 0 → addV r m = Reg.none) := Lib.hid fun q => by unfold addV; rw [if_neg q]
  have HMV := Lib.hid (fun bd W (hW : Below w.heap.size w W) => rymove_any r.secs r.hs bd (numM r m) x y z y W (hr.secs.below hW) (by have := h.secs.len; omega) h.secs.uses (hr.hs.below hW) (by have := h.hsLen; omega) h.runM.inv (by rcases hk with k | k | k; exact Or.inl k; exact Or.inr (Or.inl k); exact Or.inr (Or.inr k)))
  have HCK := Lib.hid (fun W (hW : Below w.heap.size w W) => ryCheck_ok r x y z W h (hr.below hW))
  have HSHK0 : Hid (∀ W, Below w.heap.size w W → ListAt Sec.cells 7 W x r.secs) := Lib.hid fun W hW => hr.secs.below hW
  have HNW0 : Hid (∀ W, Below w.heap.size w W → r.ms.length = 0 ∨ ∃ ad : Addr, aM = some ad ∧ ∀ j u, (cellsL mvC r.ms)[j]? = some u → W.cell? (ad.add j) = some u) := Lib.hid fun W hW => newsOf mvF (hze ▸ hr.ms.below hW)
  have HCLN : Hid ((cellsL mvC r.ms).length = r.ms.length * 7) := Lib.hid (cellsL_len mvF r.ms)
  have HONE : Hid (∀ u ∈ cellsL mvC r.ms, u.oneCell' = true) := Lib.hid (cellsL_one mvF r.ms)
  obtain ⟨m0, m1, m2, m3, m4, m5, m6⟩ := m
  simp only [numM] at HAE HAV HMV
  obtain ⟨n, hn⟩ : ∃ n, n = r.ms.length := ⟨_, rfl⟩
  have HN := Lib.hid hn
  rw [← hn] at hcapM hml hze HAE HMV HAV HNW0 HCLN
  obtain ⟨CL, hCL⟩ : ∃ CL, CL = cellsL mvC r.ms := ⟨_, rfl⟩
  have HCLE := Lib.hid hCL
  rw [← hCL] at HNW0 HCLN HONE
  subst hze
  obtain ⟨nS, hnS⟩ : ∃ n, n = r.secs.length := ⟨_, rfl⟩
  rw [← hnS] at hxe
  obtain ⟨nH, hnH⟩ : ∃ n, n = r.hs.length := ⟨_, rfl⟩
  rw [← hnH] at hye
  simp only [mvC] at HMV ⊢
  obtain ⟨er, her⟩ : ∃ er, er = addE r ⟨m0, m1, m2, m3, m4, m5, m6⟩ := ⟨_, rfl⟩
  rw [← her] at HAE HAV HAZ ⊢
  obtain ⟨W1, hW1⟩ : ∃ W1, W1 = ((w.alloc (.cells #[x, y, .slice aM n cM] 29)).alloc (.cells #[.int .i64 m0, .int .i64 m1, .int .i64 m2, .int .i64 m3, .int .i64 m4, .int .i64 m5, .int .i64 m6] 104)).alloc (.cells #[.slice none 0 0, .slice none 0 0, .slice none 0 0] 29) := ⟨_, rfl⟩
  have HB1 : Hid (Below w.heap.size w W1) := Lib.hid (by rw [hW1]; exact below3 w _ _ _)
  have HA1 : Hid (W1.heap[w.heap.size]? = some (.cells #[x, y, .slice aM n cM] 29 (0, 0))) := Lib.hid (by rw [hW1]; exact alloc3_at0 w _ _ _)
  have HM1 : Hid (W1.heap[w.heap.size + 1]? = some (.cells #[.int .i64 m0, .int .i64 m1, .int .i64 m2, .int .i64 m3, .int .i64 m4, .int .i64 m5, .int .i64 m6] 104 (0, 0))) := Lib.hid (by rw [hW1]; exact alloc3_at1 w _ _ _)
  have HO1 : Hid (W1.heap[w.heap.size + 2]? = some (.cells #[.slice none 0 0, .slice none 0 0, .slice none 0 0] 29 (0, 0))) := Lib.hid (by rw [hW1]; exact alloc3_at w _ _ _)
  have hA1 := HA1.out
  have a0 := obj_cell hA1 0
  have a1 := obj_cell hA1 1
  have a2 := obj_cell hA1 2
  simp at a0 a1 a2
  clear hA1 h hr hcsM hn hnS hnH hCL her
  subst hxe hye
  go_enter Try.func65, Try.ntmps65
  go_upto_region 1 with fail
  rw [← hW1]
  clear hW1
  go_wp2_with fail
  with_reducible refine Calls.mono (HCK.out _ HB1.out) ?_
  rintro e w2 ⟨rfl, hb2⟩
  have HB2 := Lib.hid (HB1.out.trans (hb2.mono HB1.out.size))
  have HA2 := Lib.hid (obj_below HA1.out hb2)
  have HM2 := Lib.hid (obj_below HM1.out hb2)
  have HO2 := Lib.hid (obj_below HO1.out hb2)
  clear hb2 a0 a1 a2
  have hA2 := HA2.out
  have hO2 := HO2.out
  have hM2 := HM2.out
  have a0 := obj_cell hA2 0
  have a1 := obj_cell hA2 1
  have a2 := obj_cell hA2 2
  simp at a0 a1 a2
  have o0 := obj_cell hO2 0
  have o1 := obj_cell hO2 1
  have o2 := obj_cell hO2 2
  have of0 := obj_free hO2 0
  have of1 := obj_free hO2 1
  have of2 := obj_free hO2 2
  simp at o0 o1 o2
  have z0 := obj_cell hM2 0
  have z1 := obj_cell hM2 1
  have z2 := obj_cell hM2 2
  have z3 := obj_cell hM2 3
  have z4 := obj_cell hM2 4
  have z5 := obj_cell hM2 5
  have z6 := obj_cell hM2 6
  have zf0 := obj_free hM2 0
  have zf1 := obj_free hM2 1
  have zf2 := obj_free hM2 2
  have zf3 := obj_free hM2 3
  have zf4 := obj_free hM2 4
  have zf5 := obj_free hM2 5
  have zf6 := obj_free hM2 6
  simp at z0 z1 z2 z3 z4 z5 z6
  clear hA2 hO2 hM2 HA1 HM1 HO1 HB1
  by_cases hn4 : n = 400
  · obtain rfl : er = 3 := HAE.out.trans (if_pos hn4)
    have hq : ((n : Int) == 400) = true := by simp; omega
    go_wp2
    refine ret3 HO2.out rfl _ _ _ (fun F hF => ?_) rfl ⟨_, _, _, rfl, by rw [HAZ.out (by decide)]; exact none_at _, put3_below HB2.out (by omega) _ _ _⟩
    have q0 := obj_cell hF 0
    have q1 := obj_cell hF 1
    have q2 := obj_cell hF 2
    simp [results, Try.results65, go_sem, q0, q1, q2]
  have hq : ((n : Int) == 400) = false := by rw [beq_eq_false_iff_ne]; omega
  have HAE2 := Lib.hid (HAE.out.trans (if_neg hn4))
  clear HAE
  have hnw : IntKind.i64.wrap ((n : Int) + 1) = (n : Int) + 1 := IntWalk.i64_in _ (by omega)
  obtain ⟨bd, hbd⟩ : ∃ bd, bd = (lastM Mv.zero r.ms).day := ⟨_, rfl⟩
  rw [← hbd] at HAE2
  have HBD := Lib.hid hbd
  clear hbd
  have HMV2 := Lib.hid (HMV.out bd)
  rw [← HAE2.out] at HMV2
  clear HMV HAE2
  -- the world in which the move has its number
  obtain ⟨w3, hw3⟩ : ∃ w3, w3 = w2.setCell ⟨w.heap.size + 1, 0, none⟩ (.int .i64 ((n : Int) + 1)) := ⟨_, rfl⟩
  have hg3 : w2.grownBy w3 (some (w.heap.size + 1)) := by rw [hw3]; exact setCell_grown _ _
  have HB3 : Hid (Below w.heap.size w w3) := Lib.hid (HB2.out.grown hg3 HB2.out.size (fun j e => by injection e with e; omega))
  have HA3 : Hid (w3.heap[w.heap.size]? = some (.cells #[.slice aS nS cS, .slice aH nH cH, .slice aM n cM] 29 (0, 0))) := Lib.hid ((hg3.block _ (obj_lt HA2.out) (by simp)).trans HA2.out)
  have HO3 : Hid (w3.heap[w.heap.size + 2]? = some (.cells #[.slice none 0 0, .slice none 0 0, .slice none 0 0] 29 (0, 0))) := Lib.hid ((hg3.block _ (obj_lt HO2.out) (by simp)).trans HO2.out)
  have HM3 : Hid (w3.heap[w.heap.size + 1]? = some (.cells #[.int .i64 ((n : Int) + 1), .int .i64 m1, .int .i64 m2, .int .i64 m3, .int .i64 m4, .int .i64 m5, .int .i64 m6] 104 (0, 0))) := Lib.hid (by
    rw [hw3]; have := obj_set HM2.out 0 (.int .i64 ((n : Int) + 1)); simpa using this)
  clear hg3 HA2 HO2 HM2
  by_cases hn0 : n = 0
  · have hbd0 : bd = 0 := by rw [HBD.out, List.eq_nil_of_length_eq_zero (HN.out.symm.trans hn0)]; rfl
    have hgt : ¬ (0 : Int) < (n : Int) := by omega
    rw [hbd0] at HMV2
    clear hn0 hbd0
    go_upto_region 11 with fail
    rw [← hw3]
    clear hw3 a0 a1 a2 o0 o1 o2 of0 of1 of2 z0 z1 z2 z3 z4 z5 z6 zf0 zf1 zf2 zf3 zf4 zf5 zf6
    have hA3 := HA3.out
    have hO3 := HO3.out
    have hM3 := HM3.out
    have a0 := obj_cell hA3 0
    have a1 := obj_cell hA3 1
    have a2 := obj_cell hA3 2
    simp at a0 a1 a2
    have o0 := obj_cell hO3 0
    have o1 := obj_cell hO3 1
    have o2 := obj_cell hO3 2
    have of0 := obj_free hO3 0
    have of1 := obj_free hO3 1
    have of2 := obj_free hO3 2
    simp at o0 o1 o2
    have z0 := obj_cell hM3 0
    have z1 := obj_cell hM3 1
    have z2 := obj_cell hM3 2
    have z3 := obj_cell hM3 3
    have z4 := obj_cell hM3 4
    have z5 := obj_cell hM3 5
    have z6 := obj_cell hM3 6
    simp at z0 z1 z2 z3 z4 z5 z6
    clear hA3 hO3 hM3
    go_wp2_with fail
    with_reducible refine Calls.mono (HMV2.out _ HB3.out) ?_
    rintro e w4 ⟨u, rfl, hmp, hb4⟩
    have HB4 := Lib.hid (HB3.out.trans (hb4.mono HB3.out.size))
    have HA4 := Lib.hid (obj_below HA3.out hb4)
    have HO4 := Lib.hid (obj_below HO3.out hb4)
    have HM4 := Lib.hid (obj_below HM3.out hb4)
    have HMP := Lib.hid hmp
    have HS3 := Lib.hid HB3.out.size
    clear hb4 a0 a1 a2 o0 o1 o2 of0 of1 of2 z0 z1 z2 z3 z4 z5 z6 hmp HA3 HO3 HM3
    have hA4 := HA4.out
    have hO4 := HO4.out
    have a0 := obj_cell hA4 0
    have a1 := obj_cell hA4 1
    have a2 := obj_cell hA4 2
    have af0 := obj_free hA4 0
    have af1 := obj_free hA4 1
    have af2 := obj_free hA4 2
    simp at a0 a1 a2
    have o0 := obj_cell hO4 0
    have o1 := obj_cell hO4 1
    have o2 := obj_cell hO4 2
    have of0 := obj_free hO4 0
    have of1 := obj_free hO4 1
    have of2 := obj_free hO4 2
    simp at o0 o1 o2
    clear hA4 hO4
    by_cases he0 : er = 0
    case neg =>
      have hen : (er != 0) = true := by simpa using he0
      obtain rfl := HMP.out.2 he0
      go_wp2
      refine ret3 HO4.out rfl _ _ _ (fun F hF => ?_) rfl ⟨_, _, _, rfl, by rw [HAZ.out he0]; exact none_at _, put3_below HB4.out (by omega) _ _ _⟩
      have q0 := obj_cell hF 0
      have q1 := obj_cell hF 1
      have q2 := obj_cell hF 2
      simp [results, Try.results65, go_sem, q0, q1, q2]
    subst he0
    have hown := HMP.out.1 rfl
    obtain ⟨au, cu, rfl, -, -⟩ := owns_gen hown
    obtain ⟨nu, hnu⟩ : ∃ nu, nu = (carryM r.hs ⟨(n : Int) + 1, m1, m2, m3, m4, m5, m6⟩).length := ⟨_, rfl⟩
    have HHL := Lib.hid (ListAt.owns hown)
    rw [← hnu] at HHL ⊢
    have HOB := Lib.hid (ownBlock_le hown)
    clear hown HMP
    rw [← hnu] at HOB
    clear hnu
    obtain ⟨w5, hw5⟩ : ∃ w5, w5 = w4.setCell ⟨w.heap.size, 1, none⟩ (.slice au nu cu) := ⟨_, rfl⟩
    have hg5 : w4.grownBy w5 (some w.heap.size) := by rw [hw5]; exact setCell_grown _ _
    have HB5 : Hid (Below w.heap.size w w5) := Lib.hid (HB4.out.grown hg5 HB4.out.size (fun j e => by injection e with e; omega))
    have HA5 : Hid (w5.heap[w.heap.size]? = some (.cells #[.slice aS nS cS, .slice au nu cu, .slice aM n cM] 29 (0, 0))) := Lib.hid (by
      rw [hw5]; have := obj_set HA4.out 1 (.slice au nu cu); simpa using this)
    have HO5 : Hid (w5.heap[w.heap.size + 2]? = some (.cells #[.slice none 0 0, .slice none 0 0, .slice none 0 0] 29 (0, 0))) := Lib.hid ((hg5.block _ (obj_lt HO4.out) (by simp)).trans HO4.out)
    have HM5 : Hid (w5.heap[w.heap.size + 1]? = some (.cells #[.int .i64 ((n : Int) + 1), .int .i64 m1, .int .i64 m2, .int .i64 m3, .int .i64 m4, .int .i64 m5, .int .i64 m6] 104 (0, 0))) := Lib.hid ((hg5.block _ (obj_lt HM4.out) (by simp)).trans HM4.out)
    have HH5 : Hid (ListAt hldC 3 w5 (.slice au nu cu) (carryM r.hs ⟨(n : Int) + 1, m1, m2, m3, m4, m5, m6⟩)) := Lib.hid (HHL.out.keepR hldF (fun s => ⟨s.sec, rfl⟩) HA4.out hg5)
    have HLT : Hid (w.heap.size + 2 < w5.heap.size) := Lib.hid (obj_lt HO5.out)
    go_upto_region 15 with fail
    rw [← hw5]
    clear hw5 hg5 a0 a1 a2 af0 af1 af2 o0 o1 o2 of0 of1 of2
    have hrb := HLT.out
    obtain ⟨J, hJ⟩ : ∃ J, J = fun W : World => Below w5.heap.size w5 W := ⟨_, rfl⟩
    have HJO : Hid (∀ W, J W → Below w5.heap.size w5 W) := Lib.hid fun W hW => by rw [hJ] at hW; exact hW
    have HJI : Hid (∀ W, Below w5.heap.size w5 W → J W) := Lib.hid fun W hW => by rw [hJ]; exact hW
    have HJD : Hid (∀ W, J W → J W.drew) := Lib.hid fun W hW => HJI.out _ ((HJO.out W hW).drew)
    have HJA : Hid (∀ W o, J W → J (W.alloc o)) := Lib.hid fun W o hW => HJI.out _ ((HJO.out W hW).alloc (HJO.out W hW).size o)
    have HJ0 : Hid (J w5) := Lib.hid (HJI.out _ (Below.refl _ _))
    have HMP : Hid (∀ W, J W → ∀ j, W.cell? ⟨w.heap.size + 1, j, none⟩ = #[.int .i64 ((n : Int) + 1), .int .i64 m1, .int .i64 m2, .int .i64 m3, .int .i64 m4, .int .i64 m5, .int .i64 m6][j]?) := Lib.hid fun W hW j => obj_cell (obj_below HM5.out (HJO.out W hW)) j
    have HMR : Hid (∀ W, J W → W.heap[w.heap.size]? = some (.cells #[.slice aS nS cS, .slice au nu cu, .slice aM n cM] 29 (0, 0))) := Lib.hid fun W hW => obj_below HA5.out (HJO.out W hW)
    have HML : Hid (∀ W, J W → ∀ j, W.cell? ⟨w.heap.size, j, none⟩ = #[.slice aS nS cS, .slice au nu cu, .slice aM n cM][j]?) := Lib.hid fun W hW j => obj_cell (HMR.out W hW) j
    have HNW : Hid (∀ W, J W → n = 0 ∨ ∃ ad : Addr, aM = some ad ∧ ∀ j u, CL[j]? = some u → W.cell? (ad.add j) = some u) := Lib.hid fun W hW => HNW0.out W (HB5.out.trans ((HJO.out W hW).mono HB5.out.size))
    have HSHK : Hid (∀ W, Below w5.heap.size w5 W → ListAt Sec.cells 7 W (.slice aS nS cS) r.secs) := Lib.hid fun W hW => HSHK0.out W (HB5.out.trans (hW.mono HB5.out.size))
    have HHHK : Hid (∀ W, Below w5.heap.size w5 W → ListAt hldC 3 W (.slice au nu cu) (carryM r.hs ⟨(n : Int) + 1, m1, m2, m3, m4, m5, m6⟩)) := Lib.hid fun W hW => HH5.out.below hW
    have HOO : Hid (∀ W, Below w5.heap.size w5 W → W.heap[w.heap.size + 2]? = some (.cells #[.slice none 0 0, .slice none 0 0, .slice none 0 0] 29 (0, 0))) := Lib.hid fun W hW => obj_below HO5.out hW
    clear hJ HNW0 HB4 HA4 HO4 HM4 HHL HSHK0
    obtain ⟨P, hP⟩ : ∃ P : Nat → Value → World → Prop, P = fun j v W => match j with | 0 => (v = .pointer (some ⟨w.heap.size, 2, none⟩)) | 1 => (v = .slice aM n cM) | 2 => (∃ cv, v = cv ∧ W.ownsRow w5.heap.size 104 7 cv (n) (CL)) | 3 => (v = .agg #[.int .i64 ((n : Int) + 1), .int .i64 m1, .int .i64 m2, .int .i64 m3, .int .i64 m4, .int .i64 m5, .int .i64 m6]) | 4 => (∃ bq, v = .slice (some ⟨bq, 0, none⟩) 1 1 ∧ W.heap[bq]? = some (.cells #[.int .i64 ((n : Int) + 1), .int .i64 m1, .int .i64 m2, .int .i64 m3, .int .i64 m4, .int .i64 m5, .int .i64 m6] 104 (0, 0))) | _ => True := ⟨_, rfl⟩
    have HPI0 : Hid (∀ v W, P 0 v W ↔ (v = .pointer (some ⟨w.heap.size, 2, none⟩))) := Lib.hid fun v W => by rw [hP] <;> exact Iff.rfl
    have HPI1 : Hid (∀ v W, P 1 v W ↔ (v = .slice aM n cM)) := Lib.hid fun v W => by rw [hP] <;> exact Iff.rfl
    have HPI2 : Hid (∀ v W, P 2 v W ↔ (∃ cv, v = cv ∧ W.ownsRow w5.heap.size 104 7 cv (n) (CL))) := Lib.hid fun v W => by rw [hP] <;> exact Iff.rfl
    have HPI3 : Hid (∀ v W, P 3 v W ↔ (v = .agg #[.int .i64 ((n : Int) + 1), .int .i64 m1, .int .i64 m2, .int .i64 m3, .int .i64 m4, .int .i64 m5, .int .i64 m6])) := Lib.hid fun v W => by rw [hP] <;> exact Iff.rfl
    have HPI4 : Hid (∀ v W, P 4 v W ↔ (∃ bq, v = .slice (some ⟨bq, 0, none⟩) 1 1 ∧ W.heap[bq]? = some (.cells #[.int .i64 ((n : Int) + 1), .int .i64 m1, .int .i64 m2, .int .i64 m3, .int .i64 m4, .int .i64 m5, .int .i64 m6] 104 (0, 0)))) := Lib.hid fun v W => by rw [hP] <;> exact Iff.rfl
    have HKP : Hid (∀ (j : Nat) v W W', Below W.heap.size W W' → P j v W → P j v W') := Lib.hid (by
      rw [hP]
      intro j v W W' hb h
      match j, h with
      | 0, h => exact h
      | 1, h => exact h
      | 2, ⟨cv, e, s0⟩ => exact ⟨cv, e, ownsRow_below s0 hb⟩
      | 3, h => exact h
      | 4, ⟨bq, e, s0⟩ => exact ⟨bq, e, obj_below s0 hb⟩
      | j + 5, _ => trivial)
    clear hP
    refine wp_region_tail [50, 51, 52, 53, 54, 55, 56] (slotS [50, 51, 52, 53, 54]) (readsS [50, 51, 52, 53, 54]) (RP [50, 51, 52, 53, 54] P) J (fun k f W => match k with | 0 => (∃ (cv : Value) (bq : Nat), f 52 = cv ∧ f 54 = .slice (some ⟨bq, 0, none⟩) 1 1 ∧ J W ∧ W.ownsRow w5.heap.size 104 7 cv (n) (CL) ∧ W.heap[bq]? = some (.cells #[.int .i64 ((n : Int) + 1), .int .i64 m1, .int .i64 m2, .int .i64 m3, .int .i64 m4, .int .i64 m5, .int .i64 m6] 104 (0, 0))) | 1 => (∃ uq : Value, f 55 = uq ∧ J W ∧ W.ownsRow w5.heap.size 104 7 uq (n + 1) (CL ++ [.int .i64 ((n : Int) + 1), .int .i64 m1, .int .i64 m2, .int .i64 m3, .int .i64 m4, .int .i64 m5, .int .i64 m6])) | 2 => (∃ uq : Value, f 55 = uq ∧ f 56 = .pointer (some ⟨w.heap.size, 2, none⟩) ∧ J W ∧ W.ownsRow w5.heap.size 104 7 uq (n + 1) (CL ++ [.int .i64 ((n : Int) + 1), .int .i64 m1, .int .i64 m2, .int .i64 m3, .int .i64 m4, .int .i64 m5, .int .i64 m6])) | _ => (∃ (ut : Option Addr) (ct : Nat) (W0 : World), J W0 ∧ W = W0.setCell ⟨w.heap.size, 2, none⟩ (.slice ut (n + 1) ct) ∧ W0.ownsRow w5.heap.size 104 7 (.slice ut (n + 1) ct) (n + 1) (CL ++ [.int .i64 ((n : Int) + 1), .int .i64 m1, .int .i64 m2, .int .i64 m3, .int .i64 m4, .int .i64 m5, .int .i64 m6]))) 5 8 (by decide) (by kernel_rfl) (by kernel_rfl) (by kernel_rfl) (by kernel_rfl) (HJD.out _ HJ0.out) (fun j f q v W hq h => RP.upd hq h) ?_ ?_ ?_ ?_
    case refine_1 =>
      intro iq hiq f W hIW hdep0
      have hdep : ∀ j, depB _ iq j = true → P j (f (slotS [50, 51, 52, 53, 54] j)) W := hdep0
      clear hdep0
      generalize ha1 : putsL _ [50, 51, 52, 53, 54, 55, 56] f = a1
      match iq, hiq, hdep with
      | 0, _, hdep0 =>
        have E2 : a1.tmps[2]?.getD undef = .pointer (some ⟨w.heap.size, 0, none⟩) := by rw [← ha1]; exact (putsL_out2 _ _ _ _ (by decide)).trans rfl
        exact wpOp_val rfl rfl (v := .pointer (some ⟨w.heap.size, 2, none⟩)) (w' := W) (by simp [execOp, go_sem, E2]) ⟨hIW, fun _ h => h, _, by decide, rfl, RP.set ((HPI0.out _ _).2 rfl)⟩
      | 1, _, hdep0 =>
        have hd0 := (HPI0.out _ _).1 (hdep0 0 (by kernel_rfl))
        have E50 : a1.tmps[50]?.getD undef = .pointer (some ⟨w.heap.size, 2, none⟩) := by rw [← ha1]; exact (putsL_in2 _ _ _ _ (by decide) (show 50 < 58 from by decide)).trans hd0
        have v2 : W.cell? ⟨w.heap.size, 2, none⟩ = some (.slice aM n cM) := by simpa using HML.out W hIW 2
        exact wpOp_val rfl rfl (v := .slice aM n cM) (w' := W) (by simp [execOp, go_sem, E50, v2]) ⟨hIW, fun _ h => h, _, by decide, rfl, RP.set ((HPI1.out _ _).2 rfl)⟩
      | 2, _, hdep0 =>
        have hd1 := (HPI1.out _ _).1 (hdep0 1 (by kernel_rfl))
        have E51 : a1.tmps[51]?.getD undef = .slice aM n cM := by rw [← ha1]; exact (putsL_in2 _ _ _ _ (by decide) (show 51 < 58 from by decide)).trans hd1
        refine wpOp_fresh rfl rfl (.const (.slice none 0 0)) (.tmp 51) 27 rfl w5.heap.size 104 i0 (.agg #[.int .i64 0, .int .i64 0, .int .i64 0, .int .i64 0, .int .i64 0, .int .i64 0, .int .i64 0]) 7 56 Try.underlying27 hi0 hz0 hz1 hz2 rfl (by decide) rfl aM (n) cM CL ?_ HCLN.out (HNW.out W hIW) HONE.out (by unfold maxLen; omega) (by omega) (HJO.out W hIW).size ?_
        · show a1.tmps.getD 51 undef = _
          rw [Array.getD_eq_getD_getElem?]
          exact E51
        · intro v' w' h2 h3
          have hb' : Below W.heap.size W w' := (Below.refl _ W).grown h3 (Nat.le_refl _) (fun j e => by cases e)
          have hJ' : J w' := HJI.out _ ((HJO.out W hIW).trans (hb'.mono (HJO.out W hIW).size))
          exact ⟨hJ', fun j h => HKP.out j _ _ _ hb' h, _, by decide, rfl, RP.set ((HPI2.out _ _).2 ⟨_, rfl, h2⟩)⟩
      | 3, _, hdep0 =>
        have E3 : a1.tmps[3]?.getD undef = .pointer (some ⟨w.heap.size + 1, 0, none⟩) := by rw [← ha1]; exact (putsL_out2 _ _ _ _ (by decide)).trans rfl
        have v0 : W.cell? ⟨w.heap.size + 1, 0, none⟩ = some (.int .i64 ((n : Int) + 1)) := by simpa using HMP.out W hIW 0
        have v1 : W.cell? ⟨w.heap.size + 1, 1, none⟩ = some (.int .i64 m1) := by simpa using HMP.out W hIW 1
        have v2 : W.cell? ⟨w.heap.size + 1, 2, none⟩ = some (.int .i64 m2) := by simpa using HMP.out W hIW 2
        have v3 : W.cell? ⟨w.heap.size + 1, 3, none⟩ = some (.int .i64 m3) := by simpa using HMP.out W hIW 3
        have v4 : W.cell? ⟨w.heap.size + 1, 4, none⟩ = some (.int .i64 m4) := by simpa using HMP.out W hIW 4
        have v5 : W.cell? ⟨w.heap.size + 1, 5, none⟩ = some (.int .i64 m5) := by simpa using HMP.out W hIW 5
        have v6 : W.cell? ⟨w.heap.size + 1, 6, none⟩ = some (.int .i64 m6) := by simpa using HMP.out W hIW 6
        exact wpOp_val rfl rfl (v := .agg #[.int .i64 ((n : Int) + 1), .int .i64 m1, .int .i64 m2, .int .i64 m3, .int .i64 m4, .int .i64 m5, .int .i64 m6]) (w' := W) (by simp [execOp, go_sem, E3, v0, v1, v2, v3, v4, v5, v6]) ⟨hIW, fun _ h => h, _, by decide, rfl, RP.set ((HPI3.out _ _).2 rfl)⟩
      | 4, _, hdep0 =>
        have hd3 := (HPI3.out _ _).1 (hdep0 3 (by kernel_rfl))
        have E53 : a1.tmps[53]?.getD undef = .agg #[.int .i64 ((n : Int) + 1), .int .i64 m1, .int .i64 m2, .int .i64 m3, .int .i64 m4, .int .i64 m5, .int .i64 m6] := by rw [← ha1]; exact (putsL_in2 _ _ _ _ (by decide) (show 53 < 58 from by decide)).trans hd3
        exact wpOp_val rfl rfl (v := .slice (some ⟨W.heap.size, 0, none⟩) 1 1) (w' := W.alloc (.cells #[.int .i64 ((n : Int) + 1), .int .i64 m1, .int .i64 m2, .int .i64 m3, .int .i64 m4, .int .i64 m5, .int .i64 m6] 104)) (by simp [execOp, go_sem, E53]) ⟨(HJA.out _ _ hIW), fun j h => HKP.out j _ _ _ (below_alloc _ _) h, _, by decide, rfl, RP.set ((HPI4.out _ _).2 ⟨_, rfl, heap_alloc_new _ _⟩)⟩
      | iq + 5, h, _ => exact absurd h (by omega)
    case refine_2 =>
      intro f W hIW hR
      have h52 := (HPI2.out _ _).1 (hR 2 (by decide))
      have h54 := (HPI4.out _ _).1 (hR 4 (by decide))
      obtain ⟨cv, h51, hown⟩ := h52
      obtain ⟨bq, h53, hbq⟩ := h54
      exact ⟨cv, bq, h51, h53, hIW, hown, hbq⟩
    case refine_3 =>
      intro iq hsq hiq f W hIt0
      have hiq2 : iq < 8 := hiq
      have hIt := hIt0
      clear hIt0
      rcases (show iq = 5 ∨ iq = 6 ∨ iq = 7 by omega) with rfl | rfl | rfl
      · clear hsq hiq hiq2
        obtain ⟨cv, bq, h46, h48, hIW, hown, hbq⟩ := hIt
        refine wpOp_append rfl rfl (.tmp 52) (.tmp 54) 27 rfl w5.heap.size 104 i0 (.agg #[.int .i64 0, .int .i64 0, .int .i64 0, .int .i64 0, .int .i64 0, .int .i64 0, .int .i64 0]) 7 56 Try.underlying27 hi0 hz0 hz1 hz2 rfl (by decide) cv (n) CL ?_ hown ⟨bq, 0, none⟩ 1 1 [.int .i64 ((n : Int) + 1), .int .i64 m1, .int .i64 m2, .int .i64 m3, .int .i64 m4, .int .i64 m5, .int .i64 m6] ?_ rfl (obj_new_cells hbq) (by intro u hu; simp at hu; rcases hu with rfl | rfl | rfl | rfl | rfl | rfl | rfl <;> rfl) (by unfold maxLen; omega) (by omega) (HJO.out W hIW).size ?_
        · exact (putsL_in _ _ _ _ (by decide) (show 52 < 58 from by decide)).trans h46
        · exact (putsL_in _ _ _ _ (by decide) (show 54 < 58 from by decide)).trans h48
        · intro v' w' h2 h3
          have hnew : ∃ uq : Value, updF f 55 v' 55 = uq ∧ J w' ∧ w'.ownsRow w5.heap.size 104 7 uq (n + 1) (CL ++ [.int .i64 ((n : Int) + 1), .int .i64 m1, .int .i64 m2, .int .i64 m3, .int .i64 m4, .int .i64 m5, .int .i64 m6]) := ⟨v', updF_same _ _ _, HJI.out _ ((HJO.out W hIW).grown h3 (HJO.out W hIW).size fun j e => ownBlock_le hown j e), h2⟩
          exact ⟨updF f 55 v', putsL_put _ _ _ _ _ (by decide), hnew⟩
      · clear hsq hiq hiq2
        obtain ⟨u, h49, hIW, hown⟩ := hIt
        generalize ha1 : putsL _ [50, 51, 52, 53, 54, 55, 56] f = a1
        have E2 : a1.tmps[2]?.getD undef = .pointer (some ⟨w.heap.size, 0, none⟩) := by rw [← ha1]; exact (putsL_out2 _ _ _ _ (by decide)).trans rfl
        have hnew : ∃ uq : Value, (updF f 56 (.pointer (some ⟨w.heap.size, 2, none⟩))) 55 = uq ∧ (updF f 56 (.pointer (some ⟨w.heap.size, 2, none⟩))) 56 = .pointer (some ⟨w.heap.size, 2, none⟩) ∧ J W ∧ W.ownsRow w5.heap.size 104 7 uq (n + 1) (CL ++ [.int .i64 ((n : Int) + 1), .int .i64 m1, .int .i64 m2, .int .i64 m3, .int .i64 m4, .int .i64 m5, .int .i64 m6]) := ⟨_, (updF_other f _ (by decide)).trans h49, updF_same _ _ _, hIW, hown⟩
        exact wpOp_val rfl rfl (v := .pointer (some ⟨w.heap.size, 2, none⟩)) (w' := W) (by simp [execOp, go_sem, E2]) ⟨updF f 56 (.pointer (some ⟨w.heap.size, 2, none⟩)), by rw [← ha1]; exact putsL_put _ _ _ _ _ (by decide), hnew⟩
      · clear hsq hiq hiq2
        obtain ⟨u, h50, h51, hIW, hown⟩ := hIt
        obtain ⟨au, cu, rfl, -, -⟩ := owns_gen hown
        generalize ha1 : putsL _ [50, 51, 52, 53, 54, 55, 56] f = a1
        have E55 : a1.tmps[55]?.getD undef = .slice au (n + 1) cu := by rw [← ha1]; exact (putsL_in2 _ _ _ _ (by decide) (show 55 < 58 from by decide)).trans h50
        have E56 : a1.tmps[56]?.getD undef = .pointer (some ⟨w.heap.size, 2, none⟩) := by rw [← ha1]; exact (putsL_in2 _ _ _ _ (by decide) (show 56 < 58 from by decide)).trans h51
        have hR := HMR.out W hIW
        have p2 := obj_cell hR 2
        have f2 := obj_free hR 2
        simp at p2
        have hnew : ∃ (ut : Option Addr) (ct : Nat) (W0 : World), J W0 ∧ (W.setCell ⟨w.heap.size, 2, none⟩ (.slice au (n + 1) cu)) = W0.setCell ⟨w.heap.size, 2, none⟩ (.slice ut (n + 1) ct) ∧ W0.ownsRow w5.heap.size 104 7 (.slice ut (n + 1) ct) (n + 1) (CL ++ [.int .i64 ((n : Int) + 1), .int .i64 m1, .int .i64 m2, .int .i64 m3, .int .i64 m4, .int .i64 m5, .int .i64 m6]) := ⟨au, cu, W, hIW, rfl, hown⟩
        exact wpOp_skip rfl rfl (w' := W.setCell ⟨w.heap.size, 2, none⟩ (.slice au (n + 1) cu)) (by simp [execOp, go_sem, E55, E56, p2, f2]) ⟨f, ha1.symm, hnew⟩
    case refine_4 =>
      intro f W hIt
      simp only [putsL, List.foldl_cons, List.foldl_nil, Act.put, List.setIfInBounds_toArray, List.set_cons_zero, List.set_cons_succ]
      obtain ⟨ut, ct, W0, hJ0, rfl, hown⟩ := hIt
      have hb0 := HJO.out W0 hJ0
      have hR := HMR.out W0 hJ0
      have hset := obj_set hR 2 (.slice ut (n + 1) ct)
      simp only [List.setIfInBounds_toArray, List.set_cons_zero, List.set_cons_succ] at hset
      have hg : W0.grownBy (W0.setCell ⟨w.heap.size, 2, none⟩ (.slice ut (n + 1) ct)) (some w.heap.size) := setCell_grown _ _
      have HT : Hid (ListAt mvC 7 (W0.setCell ⟨w.heap.size, 2, none⟩ (.slice ut (n + 1) ct)) (.slice ut (n + 1) ct) (r.ms ++ [(⟨(n : Int) + 1, m1, m2, m3, m4, m5, m6⟩ : Mv)])) := Lib.hid (by
        have h8 : W0.ownsRow w5.heap.size 104 7 (.slice ut (n + 1) ct) (r.ms ++ [(⟨(n : Int) + 1, m1, m2, m3, m4, m5, m6⟩ : Mv)]).length (cellsL mvC (r.ms ++ [(⟨(n : Int) + 1, m1, m2, m3, m4, m5, m6⟩ : Mv)])) := by
          rw [List.length_append, ← HN.out, ← cellsL_snoc, ← HCLE.out]; exact hown
        exact (ListAt.owns h8).keepR mvF (fun s => ⟨s.num, rfl⟩) hR hg)
      have HSH := Lib.hid ((HSHK.out W0 hb0).keepR secF (fun s => ⟨s.id, rfl⟩) hR hg)
      have HHH := Lib.hid ((HHHK.out W0 hb0).keepR hldF (fun s => ⟨s.sec, rfl⟩) hR hg)
      have HBF : Hid (Below w.heap.size w (W0.setCell ⟨w.heap.size, 2, none⟩ (.slice ut (n + 1) ct))) := Lib.hid ((HB5.out.trans (hb0.mono HB5.out.size)).grown hg (HB5.out.trans (hb0.mono HB5.out.size)).size (fun j e => by injection e with e; omega))
      have HOF : Hid ((W0.setCell ⟨w.heap.size, 2, none⟩ (.slice ut (n + 1) ct)).heap[w.heap.size + 2]? = some (.cells #[.slice none 0 0, .slice none 0 0, .slice none 0 0] 29 (0, 0))) := Lib.hid ((hg.block _ (obj_lt (HOO.out W0 hb0)) (by simp)).trans (HOO.out W0 hb0))
      have HSF := Lib.hid hset
      generalize W0.setCell ⟨w.heap.size, 2, none⟩ (.slice ut (n + 1) ct) = w6 at HT HSH HHH HBF HOF HSF ⊢
      clear hb0 hR hset hg hown hJ0
      have hs6 := HSF.out
      have ho6 := HOF.out
      have p0 := obj_cell hs6 0
      have p1 := obj_cell hs6 1
      have p2 := obj_cell hs6 2
      simp at p0 p1 p2
      have o0 := obj_cell ho6 0
      have o1 := obj_cell ho6 1
      have o2 := obj_cell ho6 2
      have of0 := obj_free ho6 0
      have of1 := obj_free ho6 1
      have of2 := obj_free ho6 2
      simp at o0 o1 o2
      clear hs6 ho6
      go_wp2
      have HFIN := Lib.hid (show RegAt w6 (.slice aS nS cS) (.slice au nu cu) (.slice ut (n + 1) ct) (addV r ⟨m0, m1, m2, m3, m4, m5, m6⟩) from by
        rw [HAV.out (by first | rfl | trivial)]
        exact ⟨HSH.out, HHH.out, HT.out⟩)
      refine ret3 HOF.out rfl _ _ _ (fun F hF => ?_) rfl ⟨_, _, _, rfl, HFIN.out.keepR HOF.out (put3_grown w6 (w.heap.size + 2) _ _ _), put3_below HBF.out (by omega) _ _ _⟩
      have q0 := obj_cell hF 0
      have q1 := obj_cell hF 1
      have q2 := obj_cell hF 2
      simp [results, Try.results65, go_sem, q0, q1, q2]

  · obtain ⟨k, hk⟩ : ∃ k, n = k + 1 := ⟨n - 1, by omega⟩
    have hkl : k < r.ms.length := by rw [← HN.out]; omega
    obtain ⟨b, o, hbo, hb, hcc⟩ := HCM.out (by rw [← HN.out]; omega)
    have c1 : w2.cell? ⟨b, o + k * 7 + 1, none⟩ = some (.int .i64 bd) := by
      rw [HB2.out.cell (p := ⟨b, o + k * 7 + 1, none⟩) hb, hcc k hkl 1 (by omega), HBD.out, lastM_at k (HN.out.symm.trans hk)]; rfl
    have hk0 : (0 : Int) ≤ (k : Int) := by omega
    have hk1 : (k : Int) < (n : Int) := by omega
    have hgt : (0 : Int) < (n : Int) := by omega
    have hkw : IntKind.i64.wrap ((n : Int) - 1) = (k : Int) := by rw [IntKind.wrap_i64]; omega
    subst hbo
    clear hcc hk hn0
    go_upto_region 11 with fail
    rw [← hw3]
    clear hw3 a0 a1 a2 o0 o1 o2 of0 of1 of2 z0 z1 z2 z3 z4 z5 z6 zf0 zf1 zf2 zf3 zf4 zf5 zf6
    have hA3 := HA3.out
    have hO3 := HO3.out
    have hM3 := HM3.out
    have a0 := obj_cell hA3 0
    have a1 := obj_cell hA3 1
    have a2 := obj_cell hA3 2
    simp at a0 a1 a2
    have o0 := obj_cell hO3 0
    have o1 := obj_cell hO3 1
    have o2 := obj_cell hO3 2
    have of0 := obj_free hO3 0
    have of1 := obj_free hO3 1
    have of2 := obj_free hO3 2
    simp at o0 o1 o2
    have z0 := obj_cell hM3 0
    have z1 := obj_cell hM3 1
    have z2 := obj_cell hM3 2
    have z3 := obj_cell hM3 3
    have z4 := obj_cell hM3 4
    have z5 := obj_cell hM3 5
    have z6 := obj_cell hM3 6
    simp at z0 z1 z2 z3 z4 z5 z6
    clear hA3 hO3 hM3
    go_wp2_with fail
    with_reducible refine Calls.mono (HMV2.out _ HB3.out) ?_
    rintro e w4 ⟨u, rfl, hmp, hb4⟩
    have HB4 := Lib.hid (HB3.out.trans (hb4.mono HB3.out.size))
    have HA4 := Lib.hid (obj_below HA3.out hb4)
    have HO4 := Lib.hid (obj_below HO3.out hb4)
    have HM4 := Lib.hid (obj_below HM3.out hb4)
    have HMP := Lib.hid hmp
    have HS3 := Lib.hid HB3.out.size
    clear hb4 a0 a1 a2 o0 o1 o2 of0 of1 of2 z0 z1 z2 z3 z4 z5 z6 hmp HA3 HO3 HM3
    have hA4 := HA4.out
    have hO4 := HO4.out
    have a0 := obj_cell hA4 0
    have a1 := obj_cell hA4 1
    have a2 := obj_cell hA4 2
    have af0 := obj_free hA4 0
    have af1 := obj_free hA4 1
    have af2 := obj_free hA4 2
    simp at a0 a1 a2
    have o0 := obj_cell hO4 0
    have o1 := obj_cell hO4 1
    have o2 := obj_cell hO4 2
    have of0 := obj_free hO4 0
    have of1 := obj_free hO4 1
    have of2 := obj_free hO4 2
    simp at o0 o1 o2
    clear hA4 hO4
    by_cases he0 : er = 0
    case neg =>
      have hen : (er != 0) = true := by simpa using he0
      obtain rfl := HMP.out.2 he0
      go_wp2
      refine ret3 HO4.out rfl _ _ _ (fun F hF => ?_) rfl ⟨_, _, _, rfl, by rw [HAZ.out he0]; exact none_at _, put3_below HB4.out (by omega) _ _ _⟩
      have q0 := obj_cell hF 0
      have q1 := obj_cell hF 1
      have q2 := obj_cell hF 2
      simp [results, Try.results65, go_sem, q0, q1, q2]
    subst he0
    have hown := HMP.out.1 rfl
    obtain ⟨au, cu, rfl, -, -⟩ := owns_gen hown
    obtain ⟨nu, hnu⟩ : ∃ nu, nu = (carryM r.hs ⟨(n : Int) + 1, m1, m2, m3, m4, m5, m6⟩).length := ⟨_, rfl⟩
    have HHL := Lib.hid (ListAt.owns hown)
    rw [← hnu] at HHL ⊢
    have HOB := Lib.hid (ownBlock_le hown)
    clear hown HMP
    rw [← hnu] at HOB
    clear hnu
    obtain ⟨w5, hw5⟩ : ∃ w5, w5 = w4.setCell ⟨w.heap.size, 1, none⟩ (.slice au nu cu) := ⟨_, rfl⟩
    have hg5 : w4.grownBy w5 (some w.heap.size) := by rw [hw5]; exact setCell_grown _ _
    have HB5 : Hid (Below w.heap.size w w5) := Lib.hid (HB4.out.grown hg5 HB4.out.size (fun j e => by injection e with e; omega))
    have HA5 : Hid (w5.heap[w.heap.size]? = some (.cells #[.slice aS nS cS, .slice au nu cu, .slice (some ⟨b, o, none⟩) n cM] 29 (0, 0))) := Lib.hid (by
      rw [hw5]; have := obj_set HA4.out 1 (.slice au nu cu); simpa using this)
    have HO5 : Hid (w5.heap[w.heap.size + 2]? = some (.cells #[.slice none 0 0, .slice none 0 0, .slice none 0 0] 29 (0, 0))) := Lib.hid ((hg5.block _ (obj_lt HO4.out) (by simp)).trans HO4.out)
    have HM5 : Hid (w5.heap[w.heap.size + 1]? = some (.cells #[.int .i64 ((n : Int) + 1), .int .i64 m1, .int .i64 m2, .int .i64 m3, .int .i64 m4, .int .i64 m5, .int .i64 m6] 104 (0, 0))) := Lib.hid ((hg5.block _ (obj_lt HM4.out) (by simp)).trans HM4.out)
    have HH5 : Hid (ListAt hldC 3 w5 (.slice au nu cu) (carryM r.hs ⟨(n : Int) + 1, m1, m2, m3, m4, m5, m6⟩)) := Lib.hid (HHL.out.keepR hldF (fun s => ⟨s.sec, rfl⟩) HA4.out hg5)
    have HLT : Hid (w.heap.size + 2 < w5.heap.size) := Lib.hid (obj_lt HO5.out)
    go_upto_region 15 with fail
    rw [← hw5]
    clear hw5 hg5 a0 a1 a2 af0 af1 af2 o0 o1 o2 of0 of1 of2
    have hrb := HLT.out
    obtain ⟨J, hJ⟩ : ∃ J, J = fun W : World => Below w5.heap.size w5 W := ⟨_, rfl⟩
    have HJO : Hid (∀ W, J W → Below w5.heap.size w5 W) := Lib.hid fun W hW => by rw [hJ] at hW; exact hW
    have HJI : Hid (∀ W, Below w5.heap.size w5 W → J W) := Lib.hid fun W hW => by rw [hJ]; exact hW
    have HJD : Hid (∀ W, J W → J W.drew) := Lib.hid fun W hW => HJI.out _ ((HJO.out W hW).drew)
    have HJA : Hid (∀ W o, J W → J (W.alloc o)) := Lib.hid fun W o hW => HJI.out _ ((HJO.out W hW).alloc (HJO.out W hW).size o)
    have HJ0 : Hid (J w5) := Lib.hid (HJI.out _ (Below.refl _ _))
    have HMP : Hid (∀ W, J W → ∀ j, W.cell? ⟨w.heap.size + 1, j, none⟩ = #[.int .i64 ((n : Int) + 1), .int .i64 m1, .int .i64 m2, .int .i64 m3, .int .i64 m4, .int .i64 m5, .int .i64 m6][j]?) := Lib.hid fun W hW j => obj_cell (obj_below HM5.out (HJO.out W hW)) j
    have HMR : Hid (∀ W, J W → W.heap[w.heap.size]? = some (.cells #[.slice aS nS cS, .slice au nu cu, .slice (some ⟨b, o, none⟩) n cM] 29 (0, 0))) := Lib.hid fun W hW => obj_below HA5.out (HJO.out W hW)
    have HML : Hid (∀ W, J W → ∀ j, W.cell? ⟨w.heap.size, j, none⟩ = #[.slice aS nS cS, .slice au nu cu, .slice (some ⟨b, o, none⟩) n cM][j]?) := Lib.hid fun W hW j => obj_cell (HMR.out W hW) j
    have HNW : Hid (∀ W, J W → n = 0 ∨ ∃ ad : Addr, (some ⟨b, o, none⟩) = some ad ∧ ∀ j u, CL[j]? = some u → W.cell? (ad.add j) = some u) := Lib.hid fun W hW => HNW0.out W (HB5.out.trans ((HJO.out W hW).mono HB5.out.size))
    have HSHK : Hid (∀ W, Below w5.heap.size w5 W → ListAt Sec.cells 7 W (.slice aS nS cS) r.secs) := Lib.hid fun W hW => HSHK0.out W (HB5.out.trans (hW.mono HB5.out.size))
    have HHHK : Hid (∀ W, Below w5.heap.size w5 W → ListAt hldC 3 W (.slice au nu cu) (carryM r.hs ⟨(n : Int) + 1, m1, m2, m3, m4, m5, m6⟩)) := Lib.hid fun W hW => HH5.out.below hW
    have HOO : Hid (∀ W, Below w5.heap.size w5 W → W.heap[w.heap.size + 2]? = some (.cells #[.slice none 0 0, .slice none 0 0, .slice none 0 0] 29 (0, 0))) := Lib.hid fun W hW => obj_below HO5.out hW
    clear hJ HNW0 HB4 HA4 HO4 HM4 HHL HSHK0
    obtain ⟨P, hP⟩ : ∃ P : Nat → Value → World → Prop, P = fun j v W => match j with | 0 => (v = .pointer (some ⟨w.heap.size, 2, none⟩)) | 1 => (v = .slice (some ⟨b, o, none⟩) n cM) | 2 => (∃ cv, v = cv ∧ W.ownsRow w5.heap.size 104 7 cv (n) (CL)) | 3 => (v = .agg #[.int .i64 ((n : Int) + 1), .int .i64 m1, .int .i64 m2, .int .i64 m3, .int .i64 m4, .int .i64 m5, .int .i64 m6]) | 4 => (∃ bq, v = .slice (some ⟨bq, 0, none⟩) 1 1 ∧ W.heap[bq]? = some (.cells #[.int .i64 ((n : Int) + 1), .int .i64 m1, .int .i64 m2, .int .i64 m3, .int .i64 m4, .int .i64 m5, .int .i64 m6] 104 (0, 0))) | _ => True := ⟨_, rfl⟩
    have HPI0 : Hid (∀ v W, P 0 v W ↔ (v = .pointer (some ⟨w.heap.size, 2, none⟩))) := Lib.hid fun v W => by rw [hP] <;> exact Iff.rfl
    have HPI1 : Hid (∀ v W, P 1 v W ↔ (v = .slice (some ⟨b, o, none⟩) n cM)) := Lib.hid fun v W => by rw [hP] <;> exact Iff.rfl
    have HPI2 : Hid (∀ v W, P 2 v W ↔ (∃ cv, v = cv ∧ W.ownsRow w5.heap.size 104 7 cv (n) (CL))) := Lib.hid fun v W => by rw [hP] <;> exact Iff.rfl
    have HPI3 : Hid (∀ v W, P 3 v W ↔ (v = .agg #[.int .i64 ((n : Int) + 1), .int .i64 m1, .int .i64 m2, .int .i64 m3, .int .i64 m4, .int .i64 m5, .int .i64 m6])) := Lib.hid fun v W => by rw [hP] <;> exact Iff.rfl
    have HPI4 : Hid (∀ v W, P 4 v W ↔ (∃ bq, v = .slice (some ⟨bq, 0, none⟩) 1 1 ∧ W.heap[bq]? = some (.cells #[.int .i64 ((n : Int) + 1), .int .i64 m1, .int .i64 m2, .int .i64 m3, .int .i64 m4, .int .i64 m5, .int .i64 m6] 104 (0, 0)))) := Lib.hid fun v W => by rw [hP] <;> exact Iff.rfl
    have HKP : Hid (∀ (j : Nat) v W W', Below W.heap.size W W' → P j v W → P j v W') := Lib.hid (by
      rw [hP]
      intro j v W W' hb h
      match j, h with
      | 0, h => exact h
      | 1, h => exact h
      | 2, ⟨cv, e, s0⟩ => exact ⟨cv, e, ownsRow_below s0 hb⟩
      | 3, h => exact h
      | 4, ⟨bq, e, s0⟩ => exact ⟨bq, e, obj_below s0 hb⟩
      | j + 5, _ => trivial)
    clear hP
    refine wp_region_tail [50, 51, 52, 53, 54, 55, 56] (slotS [50, 51, 52, 53, 54]) (readsS [50, 51, 52, 53, 54]) (RP [50, 51, 52, 53, 54] P) J (fun k f W => match k with | 0 => (∃ (cv : Value) (bq : Nat), f 52 = cv ∧ f 54 = .slice (some ⟨bq, 0, none⟩) 1 1 ∧ J W ∧ W.ownsRow w5.heap.size 104 7 cv (n) (CL) ∧ W.heap[bq]? = some (.cells #[.int .i64 ((n : Int) + 1), .int .i64 m1, .int .i64 m2, .int .i64 m3, .int .i64 m4, .int .i64 m5, .int .i64 m6] 104 (0, 0))) | 1 => (∃ uq : Value, f 55 = uq ∧ J W ∧ W.ownsRow w5.heap.size 104 7 uq (n + 1) (CL ++ [.int .i64 ((n : Int) + 1), .int .i64 m1, .int .i64 m2, .int .i64 m3, .int .i64 m4, .int .i64 m5, .int .i64 m6])) | 2 => (∃ uq : Value, f 55 = uq ∧ f 56 = .pointer (some ⟨w.heap.size, 2, none⟩) ∧ J W ∧ W.ownsRow w5.heap.size 104 7 uq (n + 1) (CL ++ [.int .i64 ((n : Int) + 1), .int .i64 m1, .int .i64 m2, .int .i64 m3, .int .i64 m4, .int .i64 m5, .int .i64 m6])) | _ => (∃ (ut : Option Addr) (ct : Nat) (W0 : World), J W0 ∧ W = W0.setCell ⟨w.heap.size, 2, none⟩ (.slice ut (n + 1) ct) ∧ W0.ownsRow w5.heap.size 104 7 (.slice ut (n + 1) ct) (n + 1) (CL ++ [.int .i64 ((n : Int) + 1), .int .i64 m1, .int .i64 m2, .int .i64 m3, .int .i64 m4, .int .i64 m5, .int .i64 m6]))) 5 8 (by decide) (by kernel_rfl) (by kernel_rfl) (by kernel_rfl) (by kernel_rfl) (HJD.out _ HJ0.out) (fun j f q v W hq h => RP.upd hq h) ?_ ?_ ?_ ?_
    case refine_1 =>
      intro iq hiq f W hIW hdep0
      have hdep : ∀ j, depB _ iq j = true → P j (f (slotS [50, 51, 52, 53, 54] j)) W := hdep0
      clear hdep0
      generalize ha1 : putsL _ [50, 51, 52, 53, 54, 55, 56] f = a1
      match iq, hiq, hdep with
      | 0, _, hdep0 =>
        have E2 : a1.tmps[2]?.getD undef = .pointer (some ⟨w.heap.size, 0, none⟩) := by rw [← ha1]; exact (putsL_out2 _ _ _ _ (by decide)).trans rfl
        exact wpOp_val rfl rfl (v := .pointer (some ⟨w.heap.size, 2, none⟩)) (w' := W) (by simp [execOp, go_sem, E2]) ⟨hIW, fun _ h => h, _, by decide, rfl, RP.set ((HPI0.out _ _).2 rfl)⟩
      | 1, _, hdep0 =>
        have hd0 := (HPI0.out _ _).1 (hdep0 0 (by kernel_rfl))
        have E50 : a1.tmps[50]?.getD undef = .pointer (some ⟨w.heap.size, 2, none⟩) := by rw [← ha1]; exact (putsL_in2 _ _ _ _ (by decide) (show 50 < 58 from by decide)).trans hd0
        have v2 : W.cell? ⟨w.heap.size, 2, none⟩ = some (.slice (some ⟨b, o, none⟩) n cM) := by simpa using HML.out W hIW 2
        exact wpOp_val rfl rfl (v := .slice (some ⟨b, o, none⟩) n cM) (w' := W) (by simp [execOp, go_sem, E50, v2]) ⟨hIW, fun _ h => h, _, by decide, rfl, RP.set ((HPI1.out _ _).2 rfl)⟩
      | 2, _, hdep0 =>
        have hd1 := (HPI1.out _ _).1 (hdep0 1 (by kernel_rfl))
        have E51 : a1.tmps[51]?.getD undef = .slice (some ⟨b, o, none⟩) n cM := by rw [← ha1]; exact (putsL_in2 _ _ _ _ (by decide) (show 51 < 58 from by decide)).trans hd1
        refine wpOp_fresh rfl rfl (.const (.slice none 0 0)) (.tmp 51) 27 rfl w5.heap.size 104 i0 (.agg #[.int .i64 0, .int .i64 0, .int .i64 0, .int .i64 0, .int .i64 0, .int .i64 0, .int .i64 0]) 7 56 Try.underlying27 hi0 hz0 hz1 hz2 rfl (by decide) rfl (some ⟨b, o, none⟩) (n) cM CL ?_ HCLN.out (HNW.out W hIW) HONE.out (by unfold maxLen; omega) (by omega) (HJO.out W hIW).size ?_
        · show a1.tmps.getD 51 undef = _
          rw [Array.getD_eq_getD_getElem?]
          exact E51
        · intro v' w' h2 h3
          have hb' : Below W.heap.size W w' := (Below.refl _ W).grown h3 (Nat.le_refl _) (fun j e => by cases e)
          have hJ' : J w' := HJI.out _ ((HJO.out W hIW).trans (hb'.mono (HJO.out W hIW).size))
          exact ⟨hJ', fun j h => HKP.out j _ _ _ hb' h, _, by decide, rfl, RP.set ((HPI2.out _ _).2 ⟨_, rfl, h2⟩)⟩
      | 3, _, hdep0 =>
        have E3 : a1.tmps[3]?.getD undef = .pointer (some ⟨w.heap.size + 1, 0, none⟩) := by rw [← ha1]; exact (putsL_out2 _ _ _ _ (by decide)).trans rfl
        have v0 : W.cell? ⟨w.heap.size + 1, 0, none⟩ = some (.int .i64 ((n : Int) + 1)) := by simpa using HMP.out W hIW 0
        have v1 : W.cell? ⟨w.heap.size + 1, 1, none⟩ = some (.int .i64 m1) := by simpa using HMP.out W hIW 1
        have v2 : W.cell? ⟨w.heap.size + 1, 2, none⟩ = some (.int .i64 m2) := by simpa using HMP.out W hIW 2
        have v3 : W.cell? ⟨w.heap.size + 1, 3, none⟩ = some (.int .i64 m3) := by simpa using HMP.out W hIW 3
        have v4 : W.cell? ⟨w.heap.size + 1, 4, none⟩ = some (.int .i64 m4) := by simpa using HMP.out W hIW 4
        have v5 : W.cell? ⟨w.heap.size + 1, 5, none⟩ = some (.int .i64 m5) := by simpa using HMP.out W hIW 5
        have v6 : W.cell? ⟨w.heap.size + 1, 6, none⟩ = some (.int .i64 m6) := by simpa using HMP.out W hIW 6
        exact wpOp_val rfl rfl (v := .agg #[.int .i64 ((n : Int) + 1), .int .i64 m1, .int .i64 m2, .int .i64 m3, .int .i64 m4, .int .i64 m5, .int .i64 m6]) (w' := W) (by simp [execOp, go_sem, E3, v0, v1, v2, v3, v4, v5, v6]) ⟨hIW, fun _ h => h, _, by decide, rfl, RP.set ((HPI3.out _ _).2 rfl)⟩
      | 4, _, hdep0 =>
        have hd3 := (HPI3.out _ _).1 (hdep0 3 (by kernel_rfl))
        have E53 : a1.tmps[53]?.getD undef = .agg #[.int .i64 ((n : Int) + 1), .int .i64 m1, .int .i64 m2, .int .i64 m3, .int .i64 m4, .int .i64 m5, .int .i64 m6] := by rw [← ha1]; exact (putsL_in2 _ _ _ _ (by decide) (show 53 < 58 from by decide)).trans hd3
        exact wpOp_val rfl rfl (v := .slice (some ⟨W.heap.size, 0, none⟩) 1 1) (w' := W.alloc (.cells #[.int .i64 ((n : Int) + 1), .int .i64 m1, .int .i64 m2, .int .i64 m3, .int .i64 m4, .int .i64 m5, .int .i64 m6] 104)) (by simp [execOp, go_sem, E53]) ⟨(HJA.out _ _ hIW), fun j h => HKP.out j _ _ _ (below_alloc _ _) h, _, by decide, rfl, RP.set ((HPI4.out _ _).2 ⟨_, rfl, heap_alloc_new _ _⟩)⟩
      | iq + 5, h, _ => exact absurd h (by omega)
    case refine_2 =>
      intro f W hIW hR
      have h52 := (HPI2.out _ _).1 (hR 2 (by decide))
      have h54 := (HPI4.out _ _).1 (hR 4 (by decide))
      obtain ⟨cv, h51, hown⟩ := h52
      obtain ⟨bq, h53, hbq⟩ := h54
      exact ⟨cv, bq, h51, h53, hIW, hown, hbq⟩
    case refine_3 =>
      intro iq hsq hiq f W hIt0
      have hiq2 : iq < 8 := hiq
      have hIt := hIt0
      clear hIt0
      rcases (show iq = 5 ∨ iq = 6 ∨ iq = 7 by omega) with rfl | rfl | rfl
      · clear hsq hiq hiq2
        obtain ⟨cv, bq, h46, h48, hIW, hown, hbq⟩ := hIt
        refine wpOp_append rfl rfl (.tmp 52) (.tmp 54) 27 rfl w5.heap.size 104 i0 (.agg #[.int .i64 0, .int .i64 0, .int .i64 0, .int .i64 0, .int .i64 0, .int .i64 0, .int .i64 0]) 7 56 Try.underlying27 hi0 hz0 hz1 hz2 rfl (by decide) cv (n) CL ?_ hown ⟨bq, 0, none⟩ 1 1 [.int .i64 ((n : Int) + 1), .int .i64 m1, .int .i64 m2, .int .i64 m3, .int .i64 m4, .int .i64 m5, .int .i64 m6] ?_ rfl (obj_new_cells hbq) (by intro u hu; simp at hu; rcases hu with rfl | rfl | rfl | rfl | rfl | rfl | rfl <;> rfl) (by unfold maxLen; omega) (by omega) (HJO.out W hIW).size ?_
        · exact (putsL_in _ _ _ _ (by decide) (show 52 < 58 from by decide)).trans h46
        · exact (putsL_in _ _ _ _ (by decide) (show 54 < 58 from by decide)).trans h48
        · intro v' w' h2 h3
          have hnew : ∃ uq : Value, updF f 55 v' 55 = uq ∧ J w' ∧ w'.ownsRow w5.heap.size 104 7 uq (n + 1) (CL ++ [.int .i64 ((n : Int) + 1), .int .i64 m1, .int .i64 m2, .int .i64 m3, .int .i64 m4, .int .i64 m5, .int .i64 m6]) := ⟨v', updF_same _ _ _, HJI.out _ ((HJO.out W hIW).grown h3 (HJO.out W hIW).size fun j e => ownBlock_le hown j e), h2⟩
          exact ⟨updF f 55 v', putsL_put _ _ _ _ _ (by decide), hnew⟩
      · clear hsq hiq hiq2
        obtain ⟨u, h49, hIW, hown⟩ := hIt
        generalize ha1 : putsL _ [50, 51, 52, 53, 54, 55, 56] f = a1
        have E2 : a1.tmps[2]?.getD undef = .pointer (some ⟨w.heap.size, 0, none⟩) := by rw [← ha1]; exact (putsL_out2 _ _ _ _ (by decide)).trans rfl
        have hnew : ∃ uq : Value, (updF f 56 (.pointer (some ⟨w.heap.size, 2, none⟩))) 55 = uq ∧ (updF f 56 (.pointer (some ⟨w.heap.size, 2, none⟩))) 56 = .pointer (some ⟨w.heap.size, 2, none⟩) ∧ J W ∧ W.ownsRow w5.heap.size 104 7 uq (n + 1) (CL ++ [.int .i64 ((n : Int) + 1), .int .i64 m1, .int .i64 m2, .int .i64 m3, .int .i64 m4, .int .i64 m5, .int .i64 m6]) := ⟨_, (updF_other f _ (by decide)).trans h49, updF_same _ _ _, hIW, hown⟩
        exact wpOp_val rfl rfl (v := .pointer (some ⟨w.heap.size, 2, none⟩)) (w' := W) (by simp [execOp, go_sem, E2]) ⟨updF f 56 (.pointer (some ⟨w.heap.size, 2, none⟩)), by rw [← ha1]; exact putsL_put _ _ _ _ _ (by decide), hnew⟩
      · clear hsq hiq hiq2
        obtain ⟨u, h50, h51, hIW, hown⟩ := hIt
        obtain ⟨au, cu, rfl, -, -⟩ := owns_gen hown
        generalize ha1 : putsL _ [50, 51, 52, 53, 54, 55, 56] f = a1
        have E55 : a1.tmps[55]?.getD undef = .slice au (n + 1) cu := by rw [← ha1]; exact (putsL_in2 _ _ _ _ (by decide) (show 55 < 58 from by decide)).trans h50
        have E56 : a1.tmps[56]?.getD undef = .pointer (some ⟨w.heap.size, 2, none⟩) := by rw [← ha1]; exact (putsL_in2 _ _ _ _ (by decide) (show 56 < 58 from by decide)).trans h51
        have hR := HMR.out W hIW
        have p2 := obj_cell hR 2
        have f2 := obj_free hR 2
        simp at p2
        have hnew : ∃ (ut : Option Addr) (ct : Nat) (W0 : World), J W0 ∧ (W.setCell ⟨w.heap.size, 2, none⟩ (.slice au (n + 1) cu)) = W0.setCell ⟨w.heap.size, 2, none⟩ (.slice ut (n + 1) ct) ∧ W0.ownsRow w5.heap.size 104 7 (.slice ut (n + 1) ct) (n + 1) (CL ++ [.int .i64 ((n : Int) + 1), .int .i64 m1, .int .i64 m2, .int .i64 m3, .int .i64 m4, .int .i64 m5, .int .i64 m6]) := ⟨au, cu, W, hIW, rfl, hown⟩
        exact wpOp_skip rfl rfl (w' := W.setCell ⟨w.heap.size, 2, none⟩ (.slice au (n + 1) cu)) (by simp [execOp, go_sem, E55, E56, p2, f2]) ⟨f, ha1.symm, hnew⟩
    case refine_4 =>
      intro f W hIt
      simp only [putsL, List.foldl_cons, List.foldl_nil, Act.put, List.setIfInBounds_toArray, List.set_cons_zero, List.set_cons_succ]
      obtain ⟨ut, ct, W0, hJ0, rfl, hown⟩ := hIt
      have hb0 := HJO.out W0 hJ0
      have hR := HMR.out W0 hJ0
      have hset := obj_set hR 2 (.slice ut (n + 1) ct)
      simp only [List.setIfInBounds_toArray, List.set_cons_zero, List.set_cons_succ] at hset
      have hg : W0.grownBy (W0.setCell ⟨w.heap.size, 2, none⟩ (.slice ut (n + 1) ct)) (some w.heap.size) := setCell_grown _ _
      have HT : Hid (ListAt mvC 7 (W0.setCell ⟨w.heap.size, 2, none⟩ (.slice ut (n + 1) ct)) (.slice ut (n + 1) ct) (r.ms ++ [(⟨(n : Int) + 1, m1, m2, m3, m4, m5, m6⟩ : Mv)])) := Lib.hid (by
        have h8 : W0.ownsRow w5.heap.size 104 7 (.slice ut (n + 1) ct) (r.ms ++ [(⟨(n : Int) + 1, m1, m2, m3, m4, m5, m6⟩ : Mv)]).length (cellsL mvC (r.ms ++ [(⟨(n : Int) + 1, m1, m2, m3, m4, m5, m6⟩ : Mv)])) := by
          rw [List.length_append, ← HN.out, ← cellsL_snoc, ← HCLE.out]; exact hown
        exact (ListAt.owns h8).keepR mvF (fun s => ⟨s.num, rfl⟩) hR hg)
      have HSH := Lib.hid ((HSHK.out W0 hb0).keepR secF (fun s => ⟨s.id, rfl⟩) hR hg)
      have HHH := Lib.hid ((HHHK.out W0 hb0).keepR hldF (fun s => ⟨s.sec, rfl⟩) hR hg)
      have HBF : Hid (Below w.heap.size w (W0.setCell ⟨w.heap.size, 2, none⟩ (.slice ut (n + 1) ct))) := Lib.hid ((HB5.out.trans (hb0.mono HB5.out.size)).grown hg (HB5.out.trans (hb0.mono HB5.out.size)).size (fun j e => by injection e with e; omega))
      have HOF : Hid ((W0.setCell ⟨w.heap.size, 2, none⟩ (.slice ut (n + 1) ct)).heap[w.heap.size + 2]? = some (.cells #[.slice none 0 0, .slice none 0 0, .slice none 0 0] 29 (0, 0))) := Lib.hid ((hg.block _ (obj_lt (HOO.out W0 hb0)) (by simp)).trans (HOO.out W0 hb0))
      have HSF := Lib.hid hset
      generalize W0.setCell ⟨w.heap.size, 2, none⟩ (.slice ut (n + 1) ct) = w6 at HT HSH HHH HBF HOF HSF ⊢
      clear hb0 hR hset hg hown hJ0
      have hs6 := HSF.out
      have ho6 := HOF.out
      have p0 := obj_cell hs6 0
      have p1 := obj_cell hs6 1
      have p2 := obj_cell hs6 2
      simp at p0 p1 p2
      have o0 := obj_cell ho6 0
      have o1 := obj_cell ho6 1
      have o2 := obj_cell ho6 2
      have of0 := obj_free ho6 0
      have of1 := obj_free ho6 1
      have of2 := obj_free ho6 2
      simp at o0 o1 o2
      clear hs6 ho6
      go_wp2
      have HFIN := Lib.hid (show RegAt w6 (.slice aS nS cS) (.slice au nu cu) (.slice ut (n + 1) ct) (addV r ⟨m0, m1, m2, m3, m4, m5, m6⟩) from by
        rw [HAV.out (by first | rfl | trivial)]
        exact ⟨HSH.out, HHH.out, HT.out⟩)
      refine ret3 HOF.out rfl _ _ _ (fun F hF => ?_) rfl ⟨_, _, _, rfl, HFIN.out.keepR HOF.out (put3_grown w6 (w.heap.size + 2) _ _ _), put3_below HBF.out (by omega) _ _ _⟩
      have q0 := obj_cell hF 0
      have q1 := obj_cell hF 1
      have q2 := obj_cell hF 2
      simp [results, Try.results65, go_sem, q0, q1, q2]

end Go.Proofs.Ytblidmkkbcobgaa
